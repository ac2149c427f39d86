"""Bent lines, lists of one to four fractions: heights, rows, the one through marks, even pulls."""

from leastmiss.errors import NoBend
from leastmiss.fractions import NOUGHT, plus, product, total_of
from leastmiss.tables import solved

MOST_NUMBERS = 4


def height_at(numbers, x):
    height = NOUGHT
    for number in reversed(numbers):
        height = plus(product(height, x), number)
    return height


def row_of(numbers, marks):
    return [height_at(numbers, mark[0]) for mark in marks]


def powers_of(x, count):
    powers = []
    power = (1, 1)
    for step in range(count):
        powers.append(power)
        power = product(power, x)
    return powers


def bent_through(marks):
    if len(marks) > MOST_NUMBERS:
        raise NoBend("a bent line has at most four numbers")
    # The places are all unlike, so the table has just one answer.
    table = [powers_of(mark[0], len(marks)) for mark in marks]
    return solved(table, [mark[1] for mark in marks])


def moments_of(marks, terms, count):
    moments = []
    for step in range(count):
        moments.append(total_of(terms))
        terms = [product(term, mark[0]) for term, mark in zip(terms, marks)]
    return moments


def is_even(marks, pulls, bend):
    return all([moment == NOUGHT for moment in moments_of(marks, pulls, bend + 1)])
