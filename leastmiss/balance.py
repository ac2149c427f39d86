"""Levels and lines that balance the marks: least levels, and least lines by the sum of misses."""

from leastmiss.bents import row_of
from leastmiss.fractions import (
    NOUGHT,
    greatest_of,
    is_less,
    least_of,
    minus,
    plus,
    product,
    quotient,
    size_of,
    total_of,
)
from leastmiss.marks import misses_of
from leastmiss.measures import measured


def least_level(kind, marks):
    heights = [mark[1] for mark in marks]
    if kind == "far":
        return product((1, 2), plus(greatest_of(heights), least_of(heights)))
    weights = [(mark[2], 1) for mark in marks]
    if kind == "sum":
        return middle_of(heights, weights)
    weighed = [product(weight, height) for weight, height in zip(weights, heights)]
    return quotient(total_of(weighed), total_of(weights))


def middle_of(some, weights):
    # The least of them that has half of the weights or more on it and below it.
    pairs = in_order(some, weights)
    whole = total_of(weights)
    spot = 0
    reached = pairs[0][1]
    while is_less(plus(reached, reached), whole):
        spot = spot + 1
        reached = plus(reached, pairs[spot][1])
    return pairs[spot][0]


def in_order(some, weights):
    pairs = []
    for one, weight in zip(some, weights):
        spot = len([pair for pair in pairs if is_less(pair[0], one)])
        pairs.insert(spot, (one, weight))
    return pairs


def level_sum(marks):
    numbers = [least_level("sum", marks)]
    misses = misses_of(marks, row_of(numbers, marks))
    return (numbers, early_pulls(marks, misses))


def line_sum(marks):
    # Some least line goes through a mark, so the least through each is enough.
    best = line_at(marks, marks[0])
    least = measured("sum", marks, row_of(best, marks))
    for mark in marks[1:]:
        line = line_at(marks, mark)
        measure = measured("sum", marks, row_of(line, marks))
        if is_less(measure, least):
            best = line
            least = measure
    return (best, line_pulls(marks, best))


def line_at(marks, mark):
    others = [other for other in marks if other[0] != mark[0]]
    if len(others) == 0:
        return [mark[1], NOUGHT]
    ways = [minus(other[0], mark[0]) for other in others]
    slopes = [quotient(minus(other[1], mark[1]), way) for other, way in zip(others, ways)]
    weights = [product((other[2], 1), size_of(way)) for other, way in zip(others, ways)]
    slope = middle_of(slopes, weights)
    return [minus(mark[1], product(slope, mark[0])), slope]


def line_pulls(marks, line):
    misses = misses_of(marks, row_of(line, marks))
    early = early_pulls(marks, misses)
    late = early_pulls(marks[::-1], misses[::-1])[::-1]
    # Of all such pulls the early ones have the least total of pull times place
    # and the late ones the greatest, so between the two it comes to nought.
    least = turn_of(marks, early)
    greatest = turn_of(marks, late)
    if least == greatest:
        return early
    part = quotient(least, minus(least, greatest))
    return [plus(one, product(part, minus(other, one))) for one, other in zip(early, late)]


def turn_of(marks, pulls):
    return total_of([product(mark[0], pull) for mark, pull in zip(marks, pulls)])


def early_pulls(marks, misses):
    # Of all pulls that are fair by sum and come to nought those that are the
    # greatest as early as can be: where a miss is nought, a pull starts at the
    # weight with a - and is raised by what is left, up to the weight.
    fixed = [mark[2] if miss[0] > 0 else -mark[2] for mark, miss in zip(marks, misses)]
    left = -sum(fixed)
    pulls = []
    for mark, miss, pull in zip(marks, misses, fixed):
        raised = min(left, 2 * mark[2]) if miss == NOUGHT else 0
        left = left - raised
        pulls.append((pull + raised, 1))
    return pulls
