import unittest
from fractions import Fraction

from leastmiss.errors import NoKind
from leastmiss.measures import is_fair, measured
from tests.drawn import (
    KINDS,
    NO_KINDS,
    Case,
    chance_of,
    changed,
    dot,
    drawn_fraction,
    drawn_marks,
    drawn_row,
    reckoned,
    told,
    value,
)

LITTLE = Fraction(1, 10 ** 30)
# Misses above, below and nought: 2, -3, 0, 3 with weights 1, 2, 5, 4.
MARKS = [((0, 1), (3, 1), 1), ((1, 1), (-2, 1), 2), ((2, 1), (7, 2), 5), ((5, 1), (4, 1), 4)]
ROW = [(1, 1), (1, 1), (7, 2), (1, 1)]
ON_MARKS = [mark[1] for mark in MARKS]


def great_marks(chance, count):
    return [
        (
            (spot, 7),
            told(Fraction(chance.randint(-10 ** 30, 10 ** 30), chance.randint(1, 10 ** 6))),
            chance.randint(10 ** 39, 10 ** 40 - 1),
        )
        for spot in range(count)
    ]


def great_row(chance, count):
    return [told(Fraction(chance.randint(-10 ** 30, 10 ** 30), chance.randint(1, 10 ** 30))) for spot in range(count)]


def fair_pulls(chance, kind, marks, row):
    """Pulls fair to the row, made as the words of the measures say."""
    misses = [value(mark[1]) - value(height) for mark, height in zip(marks, row)]
    if kind == "square":
        return [told(mark[2] * miss) for mark, miss in zip(marks, misses)]
    if kind == "sum":
        return [
            told(mark[2] if miss > 0 else -mark[2] if miss < 0 else mark[2] * Fraction(chance.randint(-5, 5), 5))
            for mark, miss in zip(marks, misses)
        ]
    greatest = max(abs(miss) for miss in misses)
    if greatest == 0:
        return [(0, 1)] * len(marks)
    shares = [chance.randint(1, 5) if abs(miss) == greatest else 0 for miss in misses]
    return [told(Fraction(share if miss > 0 else -share, sum(shares))) for share, miss in zip(shares, misses)]


class MeasuredTest(Case):
    def test_written_out(self):
        self.assertEqual(measured("far", MARKS, ROW), (3, 1))
        self.assertEqual(measured("sum", MARKS, ROW), (20, 1))
        self.assertEqual(measured("square", MARKS, ROW), (58, 1))

    def test_the_greatest_miss_may_be_below(self):
        row = [(1, 1), (5, 1), (7, 2), (1, 1)]
        self.assertEqual(measured("far", MARKS, row), (7, 1))
        self.assertEqual(measured("sum", MARKS, row), (28, 1))
        self.assertEqual(measured("square", MARKS, row), (138, 1))

    def test_weights_don_t_matter_to_far(self):
        marks = [((0, 1), (1, 2), 100), ((1, 1), (1, 1), 1)]
        self.assertEqual(measured("far", marks, [(0, 1), (0, 1)]), (1, 1))

    def test_one_mark(self):
        marks = [((4, 3), (1, 2), 6)]
        for row, far, total, square in [
            ([(1, 3)], (1, 6), (1, 1), (1, 6)),
            ([(2, 3)], (1, 6), (1, 1), (1, 6)),
            ([(1, 2)], (0, 1), (0, 1), (0, 1)),
        ]:
            self.assertEqual(measured("far", marks, row), far)
            self.assertEqual(measured("sum", marks, row), total)
            self.assertEqual(measured("square", marks, row), square)

    def test_no_miss_at_all(self):
        for kind in KINDS:
            self.assertEqual(measured(kind, MARKS, ON_MARKS), (0, 1))

    def test_drawn_ones_of_every_count(self):
        chance = chance_of(71)
        for count in range(1, 61):
            for marks, row in [
                (drawn_marks(chance, count), drawn_row(chance, count)),
                (great_marks(chance, count), great_row(chance, count)),
            ]:
                for kind in KINDS:
                    self.assert_fraction(measured(kind, marks, row), reckoned(kind, marks, row))

    def test_what_is_no_measure_is_refused(self):
        for kind in NO_KINDS:
            with self.subTest(kind=kind):
                self.assert_refused(NoKind, measured, kind, MARKS, ROW)
                self.assert_refused(NoKind, measured, kind, [], [])

    def test_lists_stay_and_answers_stay(self):
        for kind in KINDS:
            marks = list(MARKS)
            row = list(ROW)
            first = measured(kind, marks, row)
            self.assertEqual(measured(kind, marks, row), first)
            self.assertEqual((marks, row), (MARKS, ROW))
            row[0] = (99, 1)
            self.assertEqual(measured(kind, MARKS, ROW), first)


class FairCase(Case):
    def assert_fair(self, kind, row, pulls, marks=MARKS):
        self.assertIs(is_fair(kind, marks, row, pulls), True)

    def assert_not_fair(self, kind, row, pulls, marks=MARKS):
        self.assertIs(is_fair(kind, marks, row, pulls), False)


class FairSquareTest(FairCase):
    def test_just_weight_times_miss(self):
        pulls = [(2, 1), (-6, 1), (0, 1), (12, 1)]
        self.assert_fair("square", ROW, pulls)
        for spot, pull in enumerate(pulls):
            for other in [value(pull) + LITTLE, value(pull) - LITTLE, 2 * value(pull) + 1, -value(pull) - LITTLE]:
                self.assert_not_fair("square", ROW, changed(pulls, spot, told(other)))
            if pull != (0, 1):
                self.assert_not_fair("square", ROW, changed(pulls, spot, told(-value(pull))))
                self.assert_not_fair("square", ROW, changed(pulls, spot, (0, 1)))
        self.assert_not_fair("square", ROW, [(2, 1), (-6, 1), (12, 1), (0, 1)])
        self.assert_not_fair("square", ROW, [(0, 1)] * 4)

    def test_all_noughts(self):
        self.assert_fair("square", ON_MARKS, [(0, 1)] * 4)
        for spot in range(4):
            self.assert_not_fair("square", ON_MARKS, changed([(0, 1)] * 4, spot, told(LITTLE)))


class FairSumTest(FairCase):
    def test_the_weight_where_there_is_a_miss(self):
        pulls = [(1, 1), (-2, 1), (0, 1), (4, 1)]
        self.assert_fair("sum", ROW, pulls)
        for spot in (0, 1, 3):
            pull = value(pulls[spot])
            for other in [pull + LITTLE, pull - LITTLE, -pull, 0, 2 * pull]:
                self.assert_not_fair("sum", ROW, changed(pulls, spot, told(other)))
        self.assert_not_fair("sum", ROW, [(1, 1), (-2, 1), (4, 1), (0, 1)])

    def test_anything_up_to_the_weight_where_there_is_none(self):
        for other in [-5, -5 + LITTLE, Fraction(-7, 3), -LITTLE, 0, LITTLE, Fraction(1, 2), 5 - LITTLE, 5]:
            self.assert_fair("sum", ROW, [(1, 1), (-2, 1), told(other), (4, 1)])
        for other in [-5 - LITTLE, 5 + LITTLE, 6, -6, 100]:
            self.assert_not_fair("sum", ROW, [(1, 1), (-2, 1), told(other), (4, 1)])

    def test_no_miss_at_all(self):
        self.assert_fair("sum", ON_MARKS, [(0, 1)] * 4)
        self.assert_fair("sum", ON_MARKS, [(1, 1), (-2, 1), (5, 1), (-4, 1)])
        self.assert_fair("sum", ON_MARKS, [(-1, 2), (1, 2), (3, 1), (7, 2)])
        self.assert_not_fair("sum", ON_MARKS, [(-1, 2), (1, 2), (3, 1), (9, 2)])


class FairFarTest(FairCase):
    def test_several_of_the_greatest_size_above_and_below(self):
        for pulls in [
            [(0, 1), (-1, 2), (0, 1), (1, 2)],
            [(0, 1), (-1, 3), (0, 1), (2, 3)],
            [(0, 1), (-1, 1), (0, 1), (0, 1)],
            [(0, 1), (0, 1), (0, 1), (1, 1)],
        ]:
            self.assert_fair("far", ROW, pulls)

    def test_changed_ones(self):
        pulls = [(0, 1), (-1, 3), (0, 1), (2, 3)]
        for spot, pull in enumerate(pulls):
            for other in [value(pull) + LITTLE, value(pull) - LITTLE]:
                self.assert_not_fair("far", ROW, changed(pulls, spot, told(other)))
        for others in [
            [(0, 1), (1, 3), (0, 1), (2, 3)],
            [(0, 1), (-1, 3), (0, 1), (-2, 3)],
            [(0, 1), (1, 3), (0, 1), (-2, 3)],
            [(0, 1), (-1, 3), (0, 1), (4, 3)],
            [(0, 1), (0, 1), (0, 1), (2, 3)],
            [(0, 1), (-1, 3), (0, 1), (0, 1)],
            [(0, 1), (0, 1), (0, 1), (0, 1)],
        ]:
            self.assert_not_fair("far", ROW, others)

    def test_only_where_the_miss_is_greatest(self):
        for others in [
            [(2, 3), (-1, 3), (0, 1), (0, 1)],
            [(1, 1), (0, 1), (0, 1), (0, 1)],
            [(0, 1), (-1, 3), (2, 3), (0, 1)],
            [(0, 1), (-1, 3), (-2, 3), (0, 1)],
            [(1, 3), (-1, 3), (0, 1), (1, 3)],
        ]:
            self.assert_not_fair("far", ROW, others)

    def test_no_miss_at_all(self):
        self.assert_fair("far", ON_MARKS, [(0, 1)] * 4)
        for spot in range(4):
            for other in [LITTLE, -LITTLE, 1, -1]:
                self.assert_not_fair("far", ON_MARKS, changed([(0, 1)] * 4, spot, told(other)))

    def test_one_mark(self):
        marks = [((0, 1), (1, 2), 9)]
        self.assert_fair("far", [(0, 1)], [(1, 1)], marks)
        self.assert_fair("far", [(1, 1)], [(-1, 1)], marks)
        self.assert_fair("far", [(1, 2)], [(0, 1)], marks)
        for row, pull in [((0, 1), (-1, 1)), ((0, 1), (9, 1)), ((0, 1), (0, 1)), ((1, 2), (1, 1)), ((1, 1), (1, 1))]:
            self.assert_not_fair("far", [row], [pull], marks)


class DrawnFairTest(FairCase):
    def test_of_every_count_and_with_one_pull_changed(self):
        chance = chance_of(72)
        for count in range(1, 61):
            for marks in (drawn_marks(chance, count), great_marks(chance, count)):
                row = changed([mark[1] for mark in marks], chance.randrange(count), (1, 2))
                if count % 3 == 0:
                    row = drawn_row(chance, count)
                for kind in KINDS:
                    pulls = fair_pulls(chance, kind, marks, row)
                    self.assert_fair(kind, row, pulls, marks)
                    spot = chance.randrange(count)
                    if kind != "sum" or value(row[spot]) != value(marks[spot][1]):
                        for step in (LITTLE, -LITTLE):
                            other = changed(pulls, spot, told(value(pulls[spot]) + step))
                            self.assert_not_fair(kind, row, other, marks)

    def test_what_fair_pulls_tell_of_other_rows(self):
        chance = chance_of(73)
        seen = 0
        for turn in range(400):
            count = chance.randint(1, 6)
            marks = drawn_marks(chance, count, most=3, bottom=2)
            row = drawn_row(chance, count, most=3, bottom=2)
            for kind in KINDS:
                pulls = fair_pulls(chance, kind, marks, row)
                self.assert_fair(kind, row, pulls, marks)
                for again in range(6):
                    other = [told(value(one) + value(drawn_fraction(chance, 2, 4))) for one in row]
                    if dot(pulls, other) <= dot(pulls, row):
                        seen += 1
                        less = value(measured(kind, marks, other)) < value(measured(kind, marks, row))
                        self.assertFalse(less)
        self.assertGreater(seen, 2000)


class FairOfAnyKindTest(FairCase):
    def test_what_is_no_measure_is_refused(self):
        for kind in NO_KINDS:
            with self.subTest(kind=kind):
                self.assert_refused(NoKind, is_fair, kind, MARKS, ROW, [(0, 1)] * 4)
                self.assert_refused(NoKind, is_fair, kind, [], [], [])

    def test_lists_stay_and_answers_stay(self):
        for kind in KINDS:
            marks = list(MARKS)
            row = list(ROW)
            pulls = fair_pulls(chance_of(1), kind, MARKS, ROW)
            kept = list(pulls)
            self.assert_fair(kind, row, pulls, marks)
            self.assertEqual((marks, row, pulls), (MARKS, ROW, kept))
            pulls[1] = (77, 1)
            self.assert_not_fair(kind, row, pulls, marks)
            self.assert_fair(kind, row, kept, marks)


if __name__ == "__main__":
    unittest.main()
