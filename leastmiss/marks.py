"""Marks, tuples (place, height, weight) in the order of their places, and a row's misses."""

from leastmiss.errors import NoMarks
from leastmiss.fractions import is_less, minus

MOST_MARKS = 60


def count_ahead(marks, place):
    return len([mark for mark in marks if is_less(mark[0], place)])


def marks_of(some):
    if len(some) == 0:
        raise NoMarks("there is no mark")
    if len(some) > MOST_MARKS:
        raise NoMarks("there are more than sixty marks")
    marks = []
    for mark in some:
        spot = count_ahead(marks, mark[0])
        # A fraction is written in one way only, so like places are like tuples.
        if spot < len(marks) and marks[spot][0] == mark[0]:
            raise NoMarks("two marks have one place")
        marks.insert(spot, mark)
    return marks


def misses_of(marks, row):
    return [minus(mark[1], height) for mark, height in zip(marks, row)]
