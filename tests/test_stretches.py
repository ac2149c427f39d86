import unittest
from fractions import Fraction

from leastmiss.balance import level_sum
from leastmiss.errors import NoKind
from leastmiss.measures import measured
from leastmiss.stretches import joined, stretch_cost
from tests.drawn import KINDS, NO_KINDS, Case, chance_of, drawn_fraction, drawn_marks, told, value

# Heights 0, 4, 1, 1 with weights 1, 3, 1, 2.
FOUR = [((0, 1), (0, 1), 1), ((1, 1), (4, 1), 3), ((2, 1), (1, 1), 1), ((7, 2), (1, 1), 2)]


def least_cost(kind, marks, first, last):
    """The cost of a stretch, reckoned apart."""
    some = marks[first:last + 1]
    heights = [value(mark[1]) for mark in some]
    if kind == "far":
        return (max(heights) - min(heights)) / 2
    if kind == "sum":
        return min(sum(mark[2] * abs(value(mark[1]) - height) for mark in some) for height in heights)
    mean = sum(mark[2] * value(mark[1]) for mark in some) / Fraction(sum(mark[2] for mark in some))
    return sum(mark[2] * (value(mark[1]) - mean) ** 2 for mark in some)


class CostTest(Case):
    def test_written_out(self):
        for first, last, far, total, square in [
            (0, 0, 0, 0, 0),
            (3, 3, 0, 0, 0),
            (0, 1, 2, 4, 12),
            (1, 2, Fraction(3, 2), 3, Fraction(27, 4)),
            (2, 3, 0, 0, 0),
            (1, 3, Fraction(3, 2), 9, Fraction(27, 2)),
            (0, 3, 2, 10, Fraction(132, 7)),
        ]:
            self.assert_fraction(stretch_cost("far", FOUR, first, last), far)
            self.assert_fraction(stretch_cost("sum", FOUR, first, last), total)
            self.assert_fraction(stretch_cost("square", FOUR, first, last), square)

    def test_every_stretch_of_drawn_marks(self):
        chance = chance_of(201)
        for most, weight in [(2, 1), (9, 4), (10 ** 30, 10 ** 40)]:
            for count in (1, 2, 3, 9):
                marks = drawn_marks(chance, count, most, 3, weight)
                for kind in KINDS:
                    for last in range(count):
                        for first in range(last + 1):
                            wanted = least_cost(kind, marks, first, last)
                            self.assert_fraction(stretch_cost(kind, marks, first, last), wanted)

    def test_sixty_marks(self):
        chance = chance_of(202)
        marks = drawn_marks(chance, 60, 10 ** 9, 3, 10 ** 9)
        for kind in KINDS:
            for first, last in [(0, 59), (0, 0), (59, 59), (17, 44), (1, 58)]:
                self.assert_fraction(stretch_cost(kind, marks, first, last), least_cost(kind, marks, first, last))

    def test_one_mark_and_heights_alike_cost_nothing(self):
        chance = chance_of(203)
        marks = drawn_marks(chance, 20, 9, 3, 10 ** 40)
        level = [(mark[0], (-7, 3), mark[2]) for mark in marks]
        for kind in KINDS:
            for spot in range(20):
                self.assertEqual(stretch_cost(kind, marks, spot, spot), (0, 1))
                self.assertEqual(stretch_cost(kind, level, 0, spot), (0, 1))

    def test_by_sum_by_the_level_told(self):
        chance = chance_of(204)
        for turn in range(30):
            marks = drawn_marks(chance, 8)
            numbers = level_sum(marks[2:6])[0]
            self.assertEqual(stretch_cost("sum", marks, 2, 5), measured("sum", marks[2:6], numbers * 4))

    def test_what_is_no_measure_is_refused(self):
        for kind in NO_KINDS:
            with self.subTest(kind=kind):
                self.assert_refused(NoKind, stretch_cost, kind, FOUR, 0, 3)
                self.assert_refused(NoKind, stretch_cost, kind, FOUR, 1, 1)

    def test_lists_stay_and_answers_stay(self):
        for kind in KINDS:
            marks = list(FOUR)
            first = stretch_cost(kind, marks, 0, 3)
            self.assertEqual(marks, FOUR)
            self.assertEqual(stretch_cost(kind, marks, 0, 3), first)


class JoinedTest(Case):
    def test_the_greater_one_or_the_sum(self):
        self.assertEqual(joined("far", (1, 2), (2, 3)), (2, 3))
        self.assertEqual(joined("far", (3, 1), (2, 3)), (3, 1))
        self.assertEqual(joined("far", (1, 2), (1, 2)), (1, 2))
        for kind in ("sum", "square"):
            self.assertEqual(joined(kind, (1, 2), (2, 3)), (7, 6))
            self.assertEqual(joined(kind, (1, 2), (1, 2)), (1, 1))
            self.assertEqual(joined(kind, (0, 1), (2, 3)), (2, 3))

    def test_drawn_ones(self):
        chance = chance_of(211)
        for turn in range(200):
            one = drawn_fraction(chance, [3, 10 ** 30][turn % 2], 9)
            other = drawn_fraction(chance, [3, 10 ** 30][turn % 2], 9)
            self.assert_fraction(joined("far", one, other), max(value(one), value(other)))
            self.assert_fraction(joined("sum", one, other), value(one) + value(other))
            self.assert_fraction(joined("square", one, other), value(one) + value(other))

    def test_what_is_no_measure_is_refused(self):
        for kind in NO_KINDS:
            with self.subTest(kind=kind):
                self.assert_refused(NoKind, joined, kind, (1, 2), told(3))


if __name__ == "__main__":
    unittest.main()
