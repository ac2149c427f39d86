"""Exact fractions: tuples (top, bottom) in lowest terms, the bottom from 1 on."""

from leastmiss.errors import NoNumber

NOUGHT = (0, 1)


def common_divisor(one, other):
    while other != 0:
        rest = one % other
        one = other
        other = rest
    return one


def fraction(top, bottom):
    if bottom == 0:
        raise NoNumber("the bottom of a fraction is not 0")
    divisor = common_divisor(abs(top), abs(bottom))
    # The sign belongs to the top, so a bottom below 0 is turned along with it.
    if bottom < 0:
        divisor = -divisor
    return (top // divisor, bottom // divisor)


def plus(one, other):
    # Both come in lowest terms, so only what their bottoms share can still be
    # taken out of the sum; long sums stay quick without a divisor of the whole.
    shared = common_divisor(one[1], other[1])
    rest = one[1] // shared
    top = one[0] * (other[1] // shared) + other[0] * rest
    divisor = common_divisor(shared, abs(top))
    return (top // divisor, rest * (other[1] // divisor))


def minus(one, other):
    return plus(one, (-other[0], other[1]))


def product(one, other):
    # Each top can share a divisor with the other one's bottom alone, so with
    # the bottoms changed over the parts multiply to lowest terms.
    left = fraction(one[0], other[1])
    right = fraction(other[0], one[1])
    return (left[0] * right[0], left[1] * right[1])


def quotient(one, other):
    if other[0] == 0:
        raise NoNumber("nothing is divided by nought")
    return product(one, fraction(other[1], other[0]))


def is_less(one, other):
    return one[0] * other[1] < other[0] * one[1]


def size_of(one):
    return (abs(one[0]), one[1])


def total_of(some):
    total = NOUGHT
    for one in some:
        total = plus(total, one)
    return total


def greatest_of(some):
    if len(some) == 0:
        raise NoNumber("the greatest of no fractions")
    greatest = some[0]
    for one in some:
        if is_less(greatest, one):
            greatest = one
    return greatest


def least_of(some):
    if len(some) == 0:
        raise NoNumber("the least of no fractions")
    least = some[0]
    for one in some:
        if is_less(one, least):
            least = one
    return least
