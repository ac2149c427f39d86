"""Rows that rise: what holds them up, the least one by each measure, and the checker of its paper."""

from leastmiss.balance import least_level, level_sum
from leastmiss.fractions import NOUGHT, greatest_of, is_less, minus, plus, product
from leastmiss.measures import check_kind, is_fair, weighed_misses


def rises(row):
    return not any([is_less(height, ahead) for ahead, height in zip(row, row[1:])])


def holds_up(row, pulls):
    reached = NOUGHT
    for spot in range(len(row)):
        reached = plus(reached, pulls[spot])
        if is_less(reached, NOUGHT):
            return False
        at_end = spot + 1 == len(row) or row[spot + 1] != row[spot]
        if at_end and reached != NOUGHT:
            return False
    return True


def rise_least(kind, marks):
    check_kind(kind)
    if kind == "far":
        return rise_far(marks)
    blocks = pooled(kind, marks)
    row = []
    for block in blocks:
        row.extend([least_level(kind, block)] * len(block))
    if kind == "square":
        return (row, weighed_misses(marks, row))
    pulls = []
    for block in blocks:
        # A level's pulls come to nought and are the greatest as early as can
        # be; so they hold the block up if any pulls do.
        pulls.extend(level_sum(block)[1])
    return (row, pulls)


def pooled(kind, marks):
    blocks = []
    for mark in marks:
        block = [mark]
        while len(blocks) > 0 and is_less(least_level(kind, block), least_level(kind, blocks[-1])):
            block = blocks.pop() + block
        blocks.append(block)
    return blocks


def rise_far(marks):
    heights = [mark[1] for mark in marks]
    peaks = peaks_of(heights)
    drops = [minus(heights[peak], height) for peak, height in zip(peaks, heights)]
    deepest = greatest_of(drops)
    half = product((1, 2), deepest)
    row = [minus(heights[peak], half) for peak in peaks]
    pulls = [NOUGHT] * len(marks)
    if deepest != NOUGHT:
        spot = drops.index(deepest)
        pulls[peaks[spot]] = (1, 2)
        pulls[spot] = (-1, 2)
    return (row, pulls)


def peaks_of(heights):
    # For each spot, where the greatest height up to it stands first.
    peaks = []
    peak = 0
    for spot, height in enumerate(heights):
        if is_less(heights[peak], height):
            peak = spot
        peaks.append(peak)
    return peaks


def rise_shown(kind, marks, row, pulls):
    fair = is_fair(kind, marks, row, pulls)
    return fair and rises(row) and holds_up(row, pulls)
