"""Stretches of marks: what the least level to one costs, and costs put together."""

from leastmiss.balance import least_level
from leastmiss.fractions import greatest_of, plus
from leastmiss.measures import check_kind, measured


def stretch_cost(kind, marks, first, last):
    check_kind(kind)
    stretch = marks[first:last + 1]
    return measured(kind, stretch, [least_level(kind, stretch)] * len(stretch))


def joined(kind, one, other):
    check_kind(kind)
    if kind == "far":
        return greatest_of([one, other])
    return plus(one, other)
