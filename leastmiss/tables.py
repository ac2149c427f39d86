"""Tables of as many rows as there are fractions asked for, and their one answer."""

from leastmiss.errors import NoAnswer
from leastmiss.fractions import NOUGHT, minus, product, quotient


def solved(table, right):
    rows = [list(row) + [value] for row, value in zip(table, right)]
    for column in range(len(right)):
        rows = cleared(rows, column)
    return [row[-1] for row in rows]


def cleared(rows, column):
    spot = leading_spot(rows, column)
    found = rows[spot]
    leader = [quotient(one, found[column]) for one in found]
    others = [without(row, leader, column) for row in rows[:spot] + rows[spot + 1:]]
    return others[:column] + [leader] + others[column:]


def leading_spot(rows, column):
    # The rows ahead lead other columns already.
    spots = [spot for spot in range(column, len(rows)) if rows[spot][column] != NOUGHT]
    # With none left to lead this one, no list or many lists would do.
    if len(spots) == 0:
        raise NoAnswer("there is not just one answer")
    return spots[0]


def without(row, leader, column):
    return [minus(one, product(row[column], led)) for one, led in zip(row, leader)]
