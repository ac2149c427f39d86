import unittest
from fractions import Fraction

from leastmiss.errors import NoKind
from leastmiss.measures import is_fair, measured
from leastmiss.rising import holds_up, rise_least, rise_shown, rises
from tests.drawn import (
    KINDS,
    NO_KINDS,
    Case,
    chance_of,
    changed,
    dot,
    drawn_fraction,
    drawn_marks,
    reckoned,
    told,
    told_all,
    value,
    values,
)

LITTLE = Fraction(1, 10 ** 30)
FIVE = [((spot, 1), (height, 1), 1 + spot % 2) for spot, height in enumerate([3, -1, 4, 1, 5])]


def of_heights(heights, weight=1):
    return [((spot, 1), told(height), weight) for spot, height in enumerate(heights)]


def least_by_heights(kind, marks):
    """The least measure, reckoned apart, over rows of the marks' heights (by far: of the middles of each two)."""
    heights = sorted({value(mark[1]) for mark in marks})
    if kind == "far":
        heights = sorted({(one + other) / 2 for one in heights for other in heights})
    best = [Fraction(0)] * len(heights)
    for mark in marks:
        so_far = None
        found = []
        for height, before in zip(heights, best):
            so_far = before if so_far is None else min(so_far, before)
            miss = abs(value(mark[1]) - height)
            found.append(max(so_far, miss) if kind == "far" else so_far + mark[2] * miss)
        best = found
    return min(best)


def square_row(marks):
    """The greatest, over starts up to a mark, of the least, over ends from it on, of the means between."""
    def mean(first, last):
        some = marks[first:last + 1]
        return sum(mark[2] * value(mark[1]) for mark in some) / Fraction(sum(mark[2] for mark in some))

    count = len(marks)
    return [
        max(min(mean(first, last) for last in range(spot, count)) for first in range(spot + 1))
        for spot in range(count)
    ]


class RisesTest(Case):
    def test_rows(self):
        for row, wanted in [
            ([1], True),
            ([-5], True),
            ([1, 1], True),
            ([1, 2], True),
            ([2, 1], False),
            ([1, 1, 1, 1], True),
            ([1, 2, 2, 3], True),
            ([1, 2, 3, 2], False),
            ([2, 1, 3, 4], False),
            ([1, 3, 2, 4], False),
            ([-3, -2, 0, 10 ** 99], True),
            ([Fraction(1, 3), Fraction(1, 2)], True),
            ([Fraction(1, 2), Fraction(2, 5)], False),
            ([Fraction(2, 5), Fraction(1, 2)], True),
            ([-1, Fraction(-3, 2)], False),
            ([0, LITTLE], True),
            ([LITTLE, 0], False),
        ]:
            self.assertIs(rises(told_all(row)), wanted)

    def test_drawn_rows(self):
        chance = chance_of(171)
        for turn in range(300):
            row = [drawn_fraction(chance, 3, 2) for spot in range(chance.randint(1, 5))]
            self.assertIs(rises(row), values(row) == sorted(values(row)))
        long = told_all(sorted(Fraction(chance.randint(-99, 99), 7) for spot in range(60)))
        self.assertIs(rises(long), True)
        for spot in range(1, 60):
            low = told(value(long[spot - 1]) - LITTLE)
            self.assertIs(rises(changed(long, spot, low)), False)


class HoldsUpTest(Case):
    def assert_holds(self, row, pulls, wanted):
        self.assertIs(holds_up(told_all(row), told_all(pulls)), wanted)

    def test_one_level(self):
        self.assert_holds([5, 5, 5], [1, 0, -1], True)
        self.assert_holds([5, 5, 5], [0, 1, -1], True)
        self.assert_holds([5, 5, 5], [2, -1, -1], True)
        self.assert_holds([5, 5, 5], [1, -1, 0], True)
        self.assert_holds([5, 5, 5], [0, 0, 0], True)
        self.assert_holds([5, 5, 5], [-1, 1, 0], False)
        self.assert_holds([5, 5, 5], [1, -2, 1], False)
        self.assert_holds([5, 5, 5], [1, 0, 0], False)
        self.assert_holds([5, 5, 5], [1, 0, LITTLE - 1], False)
        self.assert_holds([5, 5, 5], [1, 0, -1 - LITTLE], False)

    def test_nought_where_the_next_height_is_another(self):
        for row in ([1, 1, 2, 2], [2, 2, 1, 1]):
            self.assert_holds(row, [1, -1, 3, -3], True)
            self.assert_holds(row, [0, 0, 0, 0], True)
            self.assert_holds(row, [1, 0, 0, -1], False)
            self.assert_holds(row, [1, LITTLE - 1, 0, -LITTLE], False)
            self.assert_holds(row, [1, -1, -1, 1], False)
        self.assert_holds([1, 2, 3], [0, 0, 0], True)
        self.assert_holds([1, 2, 3], [1, -1, 0], False)
        self.assert_holds([1, 2, 3], [0, 1, -1], False)
        self.assert_holds([1, 2, 1], [0, 1, -1], False)
        self.assert_holds([1, 2, 2], [0, 1, -1], True)

    def test_one_height(self):
        self.assert_holds([3], [0], True)
        self.assert_holds([3], [1], False)
        self.assert_holds([3], [-1], False)

    def test_drawn_ones_and_one_pull_changed(self):
        chance = chance_of(172)
        for turn in range(200):
            row = []
            sums = []
            for step in range(chance.randint(1, 5)):
                length = chance.randint(1, 4)
                row += [step] * length
                sums += [Fraction(chance.randint(0, 4), 3) for spot in range(length - 1)] + [Fraction(0)]
            pulls = [one - ahead for one, ahead in zip(sums, [0] + sums)]
            self.assert_holds(row, pulls, True)
            spot = chance.randrange(len(row))
            for step in (LITTLE, -LITTLE):
                self.assert_holds(row, changed(pulls, spot, pulls[spot] + step), False)

    def test_what_it_tells_of_other_rising_rows(self):
        chance = chance_of(173)
        for turn in range(300):
            count = chance.randint(1, 6)
            row = told_all(sorted(chance.randint(0, 2) for spot in range(count)))
            pulls = [(chance.randint(-1, 1), 1) for spot in range(count)]
            if holds_up(row, pulls):
                for again in range(10):
                    other = told_all(sorted(chance.randint(-3, 3) for spot in range(count)))
                    self.assertLessEqual(dot(pulls, other), dot(pulls, row))


class RiseCase(Case):
    def assert_least(self, chance, kind, marks, tries=6):
        told_of = rise_least(kind, marks)
        self.assertIs(type(told_of), tuple)
        self.assertEqual(len(told_of), 2)
        row, pulls = told_of
        self.assert_in_lowest_terms(row)
        self.assert_in_lowest_terms(pulls)
        self.assertEqual((len(row), len(pulls)), (len(marks), len(marks)))
        self.assertIs(rises(row), True)
        self.assertIs(is_fair(kind, marks, row, pulls), True)
        self.assertIs(holds_up(row, pulls), True)
        self.assertIs(rise_shown(kind, marks, row, pulls), True)
        least = reckoned(kind, marks, row)
        for turn in range(tries):
            step = [LITTLE, Fraction(1, 3), 1, 4][turn % 4]
            other = sorted(value(one) + step * chance.randint(-1, 1) for one in row)
            measure = reckoned(kind, marks, told_all(other))
            self.assertLessEqual(least, measure)
            if kind == "square" and measure == least:
                self.assertEqual(told_all(other), row)
        return told_of


class RiseLeastTest(RiseCase):
    def test_written_out(self):
        marks = of_heights([1, 4, 2, 6])
        self.assertEqual(rise_least("square", marks), (told_all([1, 3, 3, 6]), told_all([0, 1, -1, 0])))
        self.assertEqual(measured("far", marks, rise_least("far", marks)[0]), (1, 1))
        self.assertEqual(measured("sum", marks, rise_least("sum", marks)[0]), (2, 1))
        marks = [((0, 1), (5, 1), 1), ((1, 1), (1, 1), 3)]
        self.assertEqual(rise_least("square", marks), (told_all([2, 2]), told_all([3, -3])))
        self.assertEqual(rise_least("sum", marks), (told_all([1, 1]), told_all([1, -1])))
        self.assertEqual(rise_least("far", marks), (told_all([3, 3]), [(1, 2), (-1, 2)]))

    def test_heights_that_rise_already(self):
        chance = chance_of(181)
        for count in (1, 2, 5, 30, 60):
            heights = sorted(Fraction(chance.randint(-20, 20), 3) for spot in range(count))
            marks = of_heights(heights, 7)
            for kind in KINDS:
                row, pulls = self.assert_least(chance, kind, marks)
                self.assertEqual(row, told_all(heights))

    def test_heights_that_fall_and_heights_alike(self):
        chance = chance_of(182)
        for count in (1, 2, 3, 30, 60):
            for kind in KINDS:
                row = self.assert_least(chance, kind, of_heights([-3 * spot for spot in range(count)]))[0]
                self.assertEqual(len(set(row)), 1)
                row = self.assert_least(chance, kind, of_heights([Fraction(5, 3)] * count))[0]
                self.assertEqual(row, [(5, 3)] * count)

    def test_one_mark(self):
        for kind in KINDS:
            self.assertEqual(rise_least(kind, [((4, 1), (-7, 3), 10 ** 9)]), ([(-7, 3)], [(0, 1)]))

    def test_drawn_marks(self):
        chance = chance_of(183)
        for turn in range(200):
            marks = drawn_marks(chance, chance.randint(1, 10), [1, 3, 9][turn % 3], turn % 2 + 1, [1, 3, 50][turn % 3])
            for kind in KINDS:
                self.assert_least(chance, kind, marks)

    def test_thirty_and_sixty_marks(self):
        chance = chance_of(184)
        for most, weight in [(3, 2), (9, 10 ** 9), (10 ** 30, 5), (10 ** 30, 10 ** 40)]:
            for count in (30, 60):
                marks = drawn_marks(chance, count, most, 3, weight)
                for kind in KINDS:
                    self.assert_least(chance, kind, marks)

    def test_heights_that_rise_on_the_whole(self):
        chance = chance_of(185)
        for turn in range(10):
            marks = of_heights([spot + chance.randint(-6, 6) for spot in range(30)], turn + 1)
            for kind in KINDS:
                row = self.assert_least(chance, kind, marks)[0]
                self.assertGreater(len(set(row)), 3)

    def test_far_and_sum_against_all_rows_of_fit_heights(self):
        chance = chance_of(186)
        for turn in range(150):
            marks = drawn_marks(chance, chance.randint(1, 8), [1, 2, 9][turn % 3], turn % 2 + 1)
            for kind in ("far", "sum"):
                self.assertEqual(reckoned(kind, marks, rise_least(kind, marks)[0]), least_by_heights(kind, marks))

    def test_square_against_greatest_and_least_means(self):
        chance = chance_of(187)
        for turn in range(100):
            marks = drawn_marks(chance, chance.randint(1, 9), [1, 2, 9][turn % 3], turn % 2 + 1)
            self.assertEqual(rise_least("square", marks)[0], told_all(square_row(marks)))

    def test_what_is_no_measure_is_refused(self):
        for kind in NO_KINDS:
            with self.subTest(kind=kind):
                self.assert_refused(NoKind, rise_least, kind, FIVE)
                self.assert_refused(NoKind, rise_least, kind, FIVE[:1])

    def test_lists_stay_and_answers_stay(self):
        for kind in KINDS:
            for count in (1, 5):
                marks = FIVE[:count]
                first = rise_least(kind, marks)
                kept = (list(first[0]), list(first[1]))
                self.assertEqual(marks, FIVE[:count])
                self.assertIsNot(first[0], first[1])
                first[0][0] = (77, 1)
                first[1].clear()
                self.assertEqual(rise_least(kind, marks), kept)


class RiseShownTest(RiseCase):
    def test_one_height_or_one_pull_changed(self):
        chance = chance_of(188)
        for turn in range(60):
            marks = drawn_marks(chance, chance.randint(1, 7), 4, 2)
            for kind in KINDS:
                row, pulls = self.assert_least(chance, kind, marks, 1)
                least = reckoned(kind, marks, row)
                for spot in range(len(marks)):
                    for step in (LITTLE, -LITTLE, 1):
                        other = changed(pulls, spot, told(value(pulls[spot]) + step))
                        self.assertIs(rise_shown(kind, marks, row, other), False)
                        other = changed(row, spot, told(value(row[spot]) + step))
                        shown = rise_shown(kind, marks, other, pulls)
                        self.assertIs(type(shown), bool)
                        if kind == "square" or not rises(other) or reckoned(kind, marks, other) != least:
                            self.assertIs(shown, False)

    def test_each_of_the_three_is_asked(self):
        marks = of_heights([3, 1])
        self.assertIs(rise_shown("square", marks, told_all([2, 2]), told_all([1, -1])), True)
        self.assertIs(rise_shown("square", marks, told_all([3, 1]), told_all([0, 0])), False)
        self.assertIs(rise_shown("square", marks, told_all([1, 1]), told_all([2, 0])), False)
        self.assertIs(rise_shown("square", marks, told_all([2, 2]), told_all([2, -2])), False)
        self.assertIs(rise_shown("sum", marks, told_all([2, 2]), told_all([1, -1])), True)
        self.assertIs(rise_shown("sum", marks, told_all([1, 2]), told_all([1, -1])), False)
        self.assertIs(rise_shown("sum", marks, told_all([3, 3]), told_all([1, -1])), True)
        self.assertIs(rise_shown("far", marks, told_all([2, 2]), [(1, 2), (-1, 2)]), True)
        self.assertIs(rise_shown("far", marks, told_all([3, 3]), [(1, 2), (-1, 2)]), False)

    def test_whatever_is_let_by_misses_alike(self):
        chance = chance_of(189)
        seen = 0
        for turn in range(4000):
            kind = KINDS[turn % 3]
            marks = drawn_marks(chance, chance.randint(1, 4), 2, 1, 2)
            row = told_all(sorted(chance.randint(-2, 2) for mark in marks))
            pulls = rise_least(kind, marks)[1]
            if rise_shown(kind, marks, row, pulls):
                seen += 1
                least = reckoned(kind, marks, rise_least(kind, marks)[0])
                self.assertEqual(reckoned(kind, marks, row), least)
        self.assertGreater(seen, 50)

    def test_what_is_no_measure_is_refused(self):
        fall = told_all([5, 4, 3, 2, 1])
        for kind in NO_KINDS:
            with self.subTest(kind=kind):
                self.assert_refused(NoKind, rise_shown, kind, FIVE, told_all([1] * 5), [(0, 1)] * 5)
                self.assert_refused(NoKind, rise_shown, kind, FIVE, fall, [(1, 1)] * 5)

    def test_lists_stay(self):
        for kind in KINDS:
            marks = list(FIVE)
            row, pulls = rise_least(kind, marks)
            kept = (list(row), list(pulls))
            rises(row)
            holds_up(row, pulls)
            rise_shown(kind, marks, row, pulls)
            self.assertEqual((marks, row, pulls), (FIVE, kept[0], kept[1]))


if __name__ == "__main__":
    unittest.main()
