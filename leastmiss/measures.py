"""The three measures of a row's misses, and pulls that are fair to a row."""

from leastmiss.errors import NoKind
from leastmiss.fractions import NOUGHT, greatest_of, is_less, product, size_of, total_of
from leastmiss.marks import misses_of

KINDS = ("far", "sum", "square")


def check_kind(kind):
    if not isinstance(kind, str) or kind not in KINDS:
        raise NoKind("there is no such measure")


def weighed_misses(marks, row):
    return [product((mark[2], 1), miss) for mark, miss in zip(marks, misses_of(marks, row))]


def measured(kind, marks, row):
    check_kind(kind)
    misses = misses_of(marks, row)
    if kind == "far":
        return greatest_of([size_of(miss) for miss in misses])
    weighed = weighed_misses(marks, row)
    if kind == "sum":
        return total_of([size_of(one) for one in weighed])
    return total_of([product(one, miss) for one, miss in zip(weighed, misses)])


def is_fair(kind, marks, row, pulls):
    check_kind(kind)
    if kind == "far":
        return is_fair_far(misses_of(marks, row), pulls)
    if kind == "sum":
        return is_fair_sum(marks, misses_of(marks, row), pulls)
    return all([pull == one for pull, one in zip(pulls, weighed_misses(marks, row))])


def is_fair_far(misses, pulls):
    if all([pull == NOUGHT for pull in pulls]):
        return all([miss == NOUGHT for miss in misses])
    greatest = greatest_of([size_of(miss) for miss in misses])
    for miss, pull in zip(misses, pulls):
        if pull != NOUGHT and not (size_of(miss) == greatest and has_sign_of(miss, pull)):
            return False
    return total_of([size_of(pull) for pull in pulls]) == (1, 1)


def has_sign_of(miss, pull):
    # A fraction's sign is its top's; a miss of nought has none, so nothing has it.
    return miss[0] * pull[0] > 0


def is_fair_sum(marks, misses, pulls):
    for mark, miss, pull in zip(marks, misses, pulls):
        if is_less((mark[2], 1), size_of(pull)):
            return False
        if miss[0] > 0 and pull != (mark[2], 1):
            return False
        if miss[0] < 0 and pull != (-mark[2], 1):
            return False
    return True
