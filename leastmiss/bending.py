"""Least bent lines by the greatest miss and by squares, and the checker of bent lines' papers."""

from leastmiss.bents import bent_through, is_even, moments_of, row_of
from leastmiss.errors import NoBend, NoKind
from leastmiss.fractions import NOUGHT, greatest_of, minus, product, quotient, size_of, total_of
from leastmiss.marks import misses_of
from leastmiss.measures import check_kind, is_fair, weighed_misses
from leastmiss.tables import solved

MOST_BEND = 3


def bend_least(kind, marks, bend):
    if not isinstance(kind, str) or kind not in ("far", "square"):
        raise NoKind("bent lines are laid by far and by square alone")
    if not is_bend(bend):
        raise NoBend("a bend is a whole number from 0 to 3")
    if len(marks) <= bend + 1:
        return through_all(marks, bend)
    if kind == "far":
        return bend_far(marks, bend)
    return bend_square(marks, bend)


def is_bend(bend):
    return isinstance(bend, int) and not isinstance(bend, bool) and 0 <= bend <= MOST_BEND


def through_all(marks, bend):
    numbers = bent_through(marks)
    behind = [NOUGHT] * (bend + 1 - len(numbers))
    return (numbers + behind, [NOUGHT] * len(marks))


def bend_square(marks, bend):
    weights = [(mark[2], 1) for mark in marks]
    weighed = [product(weight, mark[1]) for weight, mark in zip(weights, marks)]
    moments = moments_of(marks, weights, 2 * bend + 1)
    table = [moments[power:power + bend + 1] for power in range(bend + 1)]
    # These rows ask that weight times miss be even by the bend.
    numbers = solved(table, moments_of(marks, weighed, bend + 1))
    return (numbers, weighed_misses(marks, row_of(numbers, marks)))


def bend_far(marks, bend):
    spots = spread_spots(len(marks), bend + 2)
    # Each exchange makes the level greater, so no choice of spots comes twice.
    while True:
        chosen = [marks[spot] for spot in spots]
        shares = even_shares(chosen)
        level = total_of([product(share, mark[1]) for share, mark in zip(shares, chosen)])
        numbers = bent_through(moved_by(chosen, shares, level)[:-1])
        misses = misses_of(marks, row_of(numbers, marks))
        sizes = [size_of(miss) for miss in misses]
        greatest = greatest_of(sizes)
        if greatest == size_of(level):
            return (numbers, pulls_at(spots, shares, level, len(marks)))
        spots = exchanged(spots, misses, sizes.index(greatest))


def spread_spots(count, wanted):
    return [spot * (count - 1) // (wanted - 1) for spot in range(wanted)]


def even_shares(chosen):
    # One over the product of a place's distances from the others: up to one
    # factor for all, no other pulls at so few marks are even by the bend.
    shares = []
    for mark in chosen:
        share = (1, 1)
        for other in chosen:
            if other[0] != mark[0]:
                share = quotient(share, minus(mark[0], other[0]))
        shares.append(share)
    whole = total_of([size_of(share) for share in shares])
    return [quotient(share, whole) for share in shares]


def with_sign_of(one, other):
    if one[0] < 0:
        return (-other[0], other[1])
    return other


def moved_by(chosen, shares, level):
    # Behind the move the marks lie on one bent line, from which they
    # themselves miss by the level, with signs that take turns.
    return [
        (mark[0], minus(mark[1], with_sign_of(share, level)), mark[2])
        for mark, share in zip(chosen, shares)
    ]


def pulls_at(spots, shares, level, count):
    pulls = [NOUGHT] * count
    for spot, share in zip(spots, shares):
        if level != NOUGHT:
            pulls[spot] = with_sign_of(level, share)
    return pulls


def exchanged(spots, misses, spot):
    ahead = len([one for one in spots if one < spot])
    beside = max(ahead - 1, 0)
    # Where the level is nought no sign is at stake and any exchange will do.
    if misses[spots[beside]][0] * misses[spot][0] >= 0:
        return spots[:beside] + [spot] + spots[beside + 1:]
    if ahead == 0:
        return [spot] + spots[:-1]
    if ahead == len(spots):
        return spots[1:] + [spot]
    return spots[:ahead] + [spot] + spots[ahead + 1:]


def bend_shown(kind, marks, numbers, pulls):
    check_kind(kind)
    fair = is_fair(kind, marks, row_of(numbers, marks), pulls)
    return fair and is_even(marks, pulls, len(numbers) - 1)
