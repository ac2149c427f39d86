"""What several tests share: marks and rows drawn from a fixed seed, and how refusals are looked at."""

import random
import unittest
from fractions import Fraction

KINDS = ["far", "sum", "square"]
# No measures: a sign more or less, great letters, blanks, the text without signs, and what is no text.
NO_KINDS = [
    "", "fa", "farr", "far ", " far", "far\n", "\tfar", "Far", "FAR", "su", "sums", "sum ", "Sum", "squar", "squares",
    "square ", "SQUARE", "far sum", "far,sum", "least", None, 0, 1, 2, True, False, [], ["far"], ["f", "a", "r"], (),
    ("far",), ("far", "sum", "square"), {"far": 1}, b"far", 1.5,
]


def value(one):
    return Fraction(one[0], one[1])


def values(some):
    return [value(one) for one in some]


def told(number):
    number = Fraction(number)
    return (number.numerator, number.denominator)


def told_all(numbers):
    return [told(number) for number in numbers]


def dot(some, others):
    return sum([value(one) * value(other) for one, other in zip(some, others)], Fraction(0))


def chance_of(seed):
    return random.Random(seed)


def drawn_fraction(chance, most, bottom):
    return told(Fraction(chance.randint(-most, most), chance.randint(1, bottom)))


def drawn_places(chance, count, most, bottom):
    places = set()
    while len(places) < count:
        places.add(value(drawn_fraction(chance, most, bottom)))
    return told_all(sorted(places))


def drawn_marks(chance, count, most=9, bottom=3, weight=4):
    """Marks with heights drawn close together, so that ties and misses of nought come up often."""
    return [
        (place, drawn_fraction(chance, most, bottom), chance.randint(1, weight))
        for place in drawn_places(chance, count, most + count, bottom)
    ]


def drawn_row(chance, count, most=9, bottom=3):
    return [drawn_fraction(chance, most, bottom) for spot in range(count)]


def reckoned(kind, marks, row):
    """The measure of a row, reckoned apart from the program."""
    misses = [value(mark[1]) - value(height) for mark, height in zip(marks, row)]
    if kind == "far":
        return max(abs(miss) for miss in misses)
    if kind == "sum":
        return sum(mark[2] * abs(miss) for mark, miss in zip(marks, misses))
    return sum(mark[2] * miss ** 2 for mark, miss in zip(marks, misses))


def heights_of(numbers, marks):
    """The row of a bent line, reckoned apart from the program."""
    return [sum(value(number) * value(mark[0]) ** power for power, number in enumerate(numbers)) for mark in marks]


def changed(some, spot, one):
    return some[:spot] + [one] + some[spot + 1:]


class Case(unittest.TestCase):
    def assert_refused(self, error, deed, *given):
        with self.assertRaises(error) as caught:
            deed(*given)
        self.assertIs(type(caught.exception), error)

    def assert_fraction(self, got, number):
        self.assertIs(type(got), tuple)
        self.assertEqual([type(part) for part in got], [int, int])
        self.assertEqual(got, told(number))

    def assert_fractions(self, got, numbers):
        self.assertIs(type(got), list)
        self.assertEqual(len(got), len(numbers))
        for one, number in zip(got, numbers):
            self.assert_fraction(one, number)

    def assert_in_lowest_terms(self, some):
        self.assert_fractions(some, [Fraction(*one) for one in some])
