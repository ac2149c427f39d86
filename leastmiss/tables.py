"""Tables of as many rows as there are fractions asked for, and their one answer."""

from leastmiss.errors import NoAnswer
from leastmiss.fractions import NOUGHT, minus, product, quotient


def solved(table, right):
    rows = [list(row) + [value] for row, value in zip(table, right)]
    for column in range(len(rows)):
        bring_up(rows, column)
        clear_others(rows, column)
    return [row[-1] for row in rows]


def bring_up(rows, column):
    spots = [spot for spot in range(column, len(rows)) if rows[spot][column] != NOUGHT]
    # With nothing left to lead this column, no list or many lists would do.
    if len(spots) == 0:
        raise NoAnswer("there is not just one answer")
    found = rows[spots[0]]
    rows[spots[0]] = rows[column]
    rows[column] = [quotient(one, found[column]) for one in found]


def clear_others(rows, column):
    leader = rows[column]
    for spot in range(len(rows)):
        times = rows[spot][column]
        if spot != column and times != NOUGHT:
            rows[spot] = [minus(one, product(times, led)) for one, led in zip(rows[spot], leader)]
