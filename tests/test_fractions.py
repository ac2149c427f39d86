import unittest
from fractions import Fraction

from leastmiss.errors import NoNumber
from leastmiss.fractions import (
    fraction,
    greatest_of,
    is_less,
    least_of,
    minus,
    plus,
    product,
    quotient,
    size_of,
    total_of,
)

# One hundred figures each, with divisors in common and without.
ROUND = 10 ** 99
TWOS = 2 ** 332
ROUGH = int("9876543210" * 10)
SMALL = list(range(-12, 13))
LARGE = [ROUND, -ROUND, TWOS, -TWOS, ROUGH, -ROUGH, ROUGH + 7, 10 ** 100 - 1, 1 - 10 ** 100]
WHOLE = SMALL + LARGE


def told(value):
    return (value.numerator, value.denominator)


def some_fractions():
    bottoms = [1, 2, 3, 4, 6, 12, 35, TWOS, ROUND, ROUGH]
    tops = [0, 1, -1, 2, -3, 4, 9, -12, 35, ROUND, -TWOS, -ROUGH]
    values = sorted({Fraction(top, bottom) for top in tops for bottom in bottoms})
    return [told(value) for value in values]


FRACTIONS = some_fractions()


class FractionsCase(unittest.TestCase):
    def assert_told(self, got, value):
        self.assertIs(type(got), tuple)
        self.assertEqual([type(part) for part in got], [int, int])
        self.assertEqual(got, told(value))

    def assert_no_number(self, deed, *given):
        with self.assertRaises(NoNumber) as caught:
            deed(*given)
        self.assertIs(type(caught.exception), NoNumber)

    def assert_pairs(self, deed, reckoned, seconds):
        for one in FRACTIONS:
            for other in seconds:
                self.assert_told(deed(one, other), reckoned(Fraction(*one), Fraction(*other)))


class MadeTest(FractionsCase):
    def test_written_out(self):
        for given, wanted in [
            ((6, 4), (3, 2)),
            ((-6, 4), (-3, 2)),
            ((6, -4), (-3, 2)),
            ((-6, -4), (3, 2)),
            ((0, 5), (0, 1)),
            ((0, -5), (0, 1)),
            ((7, 1), (7, 1)),
            ((7, -1), (-7, 1)),
            ((-12, 3), (-4, 1)),
            ((1, -3), (-1, 3)),
        ]:
            with self.subTest(given=given):
                self.assertEqual(fraction(*given), wanted)

    def test_every_two_whole_numbers(self):
        for top in WHOLE:
            for bottom in WHOLE:
                if bottom != 0:
                    self.assert_told(fraction(top, bottom), Fraction(top, bottom))

    def test_bottom_nought_is_refused(self):
        for top in WHOLE:
            self.assert_no_number(fraction, top, 0)


class ReckoningTest(FractionsCase):
    def test_sums(self):
        self.assertEqual(plus((1, 6), (1, 3)), (1, 2))
        self.assertEqual(plus((1, 6), (-1, 6)), (0, 1))
        self.assertEqual(plus((0, 1), (-2, 3)), (-2, 3))
        self.assert_pairs(plus, lambda one, other: one + other, FRACTIONS)

    def test_differences(self):
        self.assertEqual(minus((1, 2), (1, 3)), (1, 6))
        self.assertEqual(minus((0, 1), (-2, 3)), (2, 3))
        self.assert_pairs(minus, lambda one, other: one - other, FRACTIONS)

    def test_products(self):
        self.assertEqual(product((-2, 3), (3, 4)), (-1, 2))
        self.assertEqual(product((0, 1), (-2, 3)), (0, 1))
        self.assertEqual(product((-2, 3), (0, 1)), (0, 1))
        self.assert_pairs(product, lambda one, other: one * other, FRACTIONS)

    def test_quotients(self):
        self.assertEqual(quotient((1, 2), (-3, 4)), (-2, 3))
        self.assertEqual(quotient((0, 1), (-3, 4)), (0, 1))
        seconds = [other for other in FRACTIONS if other != (0, 1)]
        self.assert_pairs(quotient, lambda one, other: one / other, seconds)

    def test_quotient_by_nought_is_refused(self):
        for one in FRACTIONS:
            self.assert_no_number(quotient, one, (0, 1))

    def test_small_ones_of_every_two(self):
        values = [Fraction(top, bottom) for top in range(-6, 7) for bottom in range(1, 7)]
        for one in values:
            for other in values:
                self.assert_told(plus(told(one), told(other)), one + other)
                self.assert_told(minus(told(one), told(other)), one - other)
                self.assert_told(product(told(one), told(other)), one * other)
                if other != 0:
                    self.assert_told(quotient(told(one), told(other)), one / other)

    def test_sizes(self):
        self.assertEqual(size_of((-2, 3)), (2, 3))
        self.assertEqual(size_of((0, 1)), (0, 1))
        self.assertEqual(size_of((2, 3)), (2, 3))
        for one in FRACTIONS:
            self.assert_told(size_of(one), abs(Fraction(*one)))


class OrderTest(FractionsCase):
    def test_less_is_a_truth(self):
        for one in FRACTIONS:
            for other in FRACTIONS:
                self.assertIs(is_less(one, other), Fraction(*one) < Fraction(*other))

    def test_alike_is_not_less(self):
        for one in FRACTIONS:
            self.assertIs(is_less(one, one), False)
            self.assertIs(is_less(one, fraction(3 * one[0], 3 * one[1])), False)

    def test_greatest_and_least_wherever_they_stand(self):
        for turn in range(len(FRACTIONS)):
            some = (FRACTIONS[turn:] + FRACTIONS[:turn])[:60]
            values = [Fraction(*one) for one in some]
            self.assert_told(greatest_of(some), max(values))
            self.assert_told(least_of(some), min(values))

    def test_order_is_by_value_and_not_by_top(self):
        some = [(1, 2), (2, 5), (-7, 9), (-1, 1)]
        self.assertEqual(greatest_of(some), (1, 2))
        self.assertEqual(least_of(some), (-1, 1))

    def test_of_one_and_of_several_alike(self):
        for one in FRACTIONS:
            for count in (1, 2, 60):
                self.assertEqual(greatest_of([one] * count), one)
                self.assertEqual(least_of([one] * count), one)
        self.assertEqual(greatest_of([(1, 2), (3, 4), (3, 4), (-1, 2)]), (3, 4))
        self.assertEqual(least_of([(1, 2), (-1, 2), (3, 4), (-1, 2)]), (-1, 2))

    def test_of_none_is_refused(self):
        self.assert_no_number(greatest_of, [])
        self.assert_no_number(least_of, [])


class TotalTest(FractionsCase):
    def test_of_none(self):
        self.assertEqual(total_of([]), (0, 1))

    def test_of_one(self):
        for one in FRACTIONS:
            self.assertEqual(total_of([one]), one)

    def test_up_to_sixty_small_ones(self):
        some = [fraction((-1) ** k * k, k % 7 + 1) for k in range(60)]
        for count in range(61):
            values = [Fraction(*one) for one in some[:count]]
            self.assert_told(total_of(some[:count]), sum(values, Fraction(0)))

    def test_sixty_of_a_hundred_figures(self):
        some = [fraction(ROUND + 3 * k, ROUGH - k * k) for k in range(60)]
        self.assert_told(total_of(some), sum([Fraction(*one) for one in some]))

    def test_what_cancels_comes_to_nought(self):
        some = [(1, 3), (-5, 7), (ROUND + 1, TWOS)]
        self.assertEqual(total_of(some + [(-top, bottom) for top, bottom in some]), (0, 1))


class NothingChangesTest(FractionsCase):
    def test_lists_stay_and_answers_stay(self):
        for deed in (total_of, greatest_of, least_of):
            some = [(1, 2), (-3, 4), (5, 1), (-3, 4)]
            first = deed(some)
            self.assertEqual(some, [(1, 2), (-3, 4), (5, 1), (-3, 4)])
            self.assertEqual(deed(some), first)
            some.append((9, 1))
            self.assertEqual(deed([(1, 2), (-3, 4), (5, 1), (-3, 4)]), first)


if __name__ == "__main__":
    unittest.main()
