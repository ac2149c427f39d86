"""Rows of few steps: the least one by each measure with its table, and the checker of tables."""

from leastmiss.balance import least_level
from leastmiss.errors import NoNumber
from leastmiss.fractions import is_less
from leastmiss.measures import check_kind, measured
from leastmiss.stretches import joined, stretch_cost

MOST_STEPS = 59


def steps_of(row):
    return len([height for ahead, height in zip(row, row[1:]) if height != ahead])


def costs_to(kind, marks, last):
    return [stretch_cost(kind, marks, first, last) for first in range(last + 1)]


def all_costs(kind, marks):
    # By the last mark of a stretch, then by its first one.
    return [costs_to(kind, marks, last) for last in range(len(marks))]


def is_above(kind, entry, one, other):
    # Whether the entry is above the two put together. The sum is not brought
    # to lowest terms, as a table has many thousands of them to be compared.
    if kind == "far":
        return is_less(one, entry) and is_less(other, entry)
    return is_less((one[0] * other[1] + other[0] * one[1], one[1] * other[1]), entry)


def is_low(kind, marks, table):
    check_kind(kind)
    costs = all_costs(kind, marks)
    for spot in range(len(table)):
        entries_ahead = table[spot - 1] if spot > 0 else []
        for entry, some in zip(table[spot], costs):
            if not is_low_entry(kind, entry, some, entries_ahead):
                return False
    return True


def is_low_entry(kind, entry, costs, entries_ahead):
    if is_less(costs[0], entry):
        return False
    for one, cost in zip(entries_ahead, costs[1:]):
        if is_above(kind, entry, one, cost):
            return False
    return True


def step_least(kind, marks, k):
    check_kind(kind)
    if k < 0 or k > MOST_STEPS:
        raise NoNumber("steps are a number from 0 to 59")
    costs = all_costs(kind, marks)
    table = []
    starts = []
    entries = []
    for spot in range(k + 1):
        found = [best_entry(kind, some, entries) for some in costs]
        entries = [one[0] for one in found]
        table.append(entries)
        starts.append([one[1] for one in found])
    return (laid_row(kind, marks, starts), table)


def best_entry(kind, costs, entries_ahead):
    # The least that a row misses of the marks up to one, and where its last
    # stretch starts; with nothing ahead there is one stretch alone.
    best = costs[0]
    start = 0
    for spot, one in enumerate(entries_ahead[:len(costs) - 1]):
        if is_above(kind, best, one, costs[spot + 1]):
            best = joined(kind, one, costs[spot + 1])
            start = spot + 1
    return (best, start)


def laid_row(kind, marks, starts):
    row = []
    count = len(marks)
    spot = len(starts) - 1
    while count > 0:
        first = starts[spot][count - 1]
        stretch = marks[first:count]
        row = [least_level(kind, stretch)] * len(stretch) + row
        count = first
        spot = spot - 1
    return row


def step_shown(kind, marks, k, row, table):
    check_kind(kind)
    if steps_of(row) > k or len(table) != k + 1:
        return False
    return table[k][len(marks) - 1] == measured(kind, marks, row) and is_low(kind, marks, table)
