import unittest
from fractions import Fraction
from itertools import combinations

from leastmiss.errors import NoKind, NoNumber
from leastmiss.measures import measured
from leastmiss.steps import is_low, step_least, step_shown, steps_of
from leastmiss.stretches import joined, stretch_cost
from tests.drawn import KINDS, NO_KINDS, Case, chance_of, changed, drawn_marks, reckoned, told, told_all, value

LITTLE = Fraction(1, 10 ** 30)
FIVE = [((spot, 1), (height, 1), 1 + spot % 2) for spot, height in enumerate([3, -1, 4, 1, 5])]
NO_COUNTS = [-1, -2, -59, -10 ** 99, 60, 61, 100, 10 ** 99]


def least_of_all_cuts(kind, marks, k):
    """The least measure of a row of at most k steps, by trying every way to cut the marks."""
    found = []
    for steps in range(min(k, len(marks) - 1) + 1):
        for cuts in combinations(range(1, len(marks)), steps):
            starts = [0, *cuts]
            ends = [*cuts, len(marks)]
            costs = [value(stretch_cost(kind, marks, first, end - 1)) for first, end in zip(starts, ends)]
            found.append(max(costs) if kind == "far" else sum(costs))
    return min(found)


def is_low_by_words(kind, marks, table):
    for j, entries in enumerate(table):
        for i, entry in enumerate(entries):
            bounds = [stretch_cost(kind, marks, 0, i)]
            if j > 0:
                bounds += [joined(kind, table[j - 1][h - 1], stretch_cost(kind, marks, h, i)) for h in range(1, i + 1)]
            if any(value(entry) > value(bound) for bound in bounds):
                return False
    return True


def with_entry(table, j, i, entry):
    return changed(table, j, changed(table[j], i, entry))


def copied(table):
    return [list(entries) for entries in table]


class StepsOfTest(Case):
    def test_rows(self):
        for row, wanted in [
            ([1], 0),
            ([0], 0),
            ([1, 1], 0),
            ([1, 2], 1),
            ([2, 1], 1),
            ([1, 1, 1, 1], 0),
            ([1, 1, 2, 2], 1),
            ([1, 2, 1, 1], 2),
            ([1, 2, 1, 2], 3),
            ([1, 2, 3, 1], 3),
            ([5, 5, 3, 5, 5], 2),
            (list(range(60)), 59),
            ([1] * 59 + [2], 1),
            ([2] + [1] * 59, 1),
        ]:
            got = steps_of(told_all(row))
            self.assertIs(type(got), int)
            self.assertEqual(got, wanted)
        self.assertEqual(steps_of([(1, 2), (1, 3), (1, 3), (2, 3)]), 2)

    def test_the_row_stays(self):
        row = told_all([1, 2, 2, 1])
        steps_of(row)
        self.assertEqual(row, told_all([1, 2, 2, 1]))


class StepCase(Case):
    def assert_least(self, chance, kind, marks, k, tries=5):
        told_of = step_least(kind, marks, k)
        self.assertIs(type(told_of), tuple)
        self.assertEqual(len(told_of), 2)
        row, table = told_of
        self.assert_in_lowest_terms(row)
        self.assertEqual(len(row), len(marks))
        self.assertLessEqual(steps_of(row), k)
        self.assertIs(type(table), list)
        self.assertEqual(len(table), k + 1)
        for entries in table:
            self.assert_in_lowest_terms(entries)
            self.assertEqual(len(entries), len(marks))
        self.assertEqual(len({id(some) for some in table + [row]}), k + 2)
        self.assertEqual(table[k][-1], measured(kind, marks, row))
        self.assertIs(is_low(kind, marks, table), True)
        self.assertIs(step_shown(kind, marks, k, row, table), True)
        least = reckoned(kind, marks, row)
        for turn in range(tries):
            cuts = sorted(chance.randint(0, len(marks)) for cut in range(k))
            heights = [value(chance.choice(row)) + Fraction(chance.randint(-3, 3), 3) for cut in range(k + 1)]
            other = [heights[len([cut for cut in cuts if cut <= spot])] for spot in range(len(marks))]
            self.assertLessEqual(least, reckoned(kind, marks, told_all(other)))
        return told_of


class StepLeastTest(StepCase):
    def test_written_out(self):
        marks = [((spot, 1), (height, 1), 1) for spot, height in enumerate([0, 1, 5, 6, 6])]
        self.assertEqual(step_least("far", marks, 0)[0], told_all([3] * 5))
        self.assertEqual(step_least("square", marks, 0)[0], [(18, 5)] * 5)
        self.assertEqual(measured("sum", marks, step_least("sum", marks, 0)[0]), (11, 1))
        half = Fraction(1, 2)
        self.assertEqual(step_least("square", marks, 1)[0], told_all([half, half] + [Fraction(17, 3)] * 3))
        self.assertEqual(step_least("far", marks, 1)[1][1][-1], (1, 2))
        self.assertEqual(step_least("sum", marks, 1)[1][1][-1], (2, 1))
        self.assertEqual(step_least("sum", marks, 3)[0], told_all([0, 1, 5, 6, 6]))

    def test_each_count_of_steps(self):
        chance = chance_of(221)
        for turn in range(12):
            count = chance.randint(1, 6)
            marks = drawn_marks(chance, count, [1, 3, 9][turn % 3], turn % 2 + 1)
            for kind in KINDS:
                for k in list(range(count + 3)) + [59]:
                    row = self.assert_least(chance, kind, marks, k)[0]
                    self.assertEqual(reckoned(kind, marks, row), least_of_all_cuts(kind, marks, k))
                    if k >= count - 1:
                        self.assertEqual(row, [mark[1] for mark in marks])

    def test_marks_on_few_steps(self):
        chance = chance_of(222)
        for k in range(5):
            heights = [Fraction(7 * (-1) ** step, step + 1) for step in range(k + 1) for spot in range(3)]
            marks = [((spot, 3), told(height), spot + 1) for spot, height in enumerate(heights)]
            for kind in KINDS:
                row = self.assert_least(chance, kind, marks, k)[0]
                self.assertEqual(row, told_all(heights))
                if k > 0:
                    self.assertNotEqual(step_least(kind, marks, k - 1)[0], row)

    def test_ten_marks_against_every_cut(self):
        chance = chance_of(223)
        for turn in range(3):
            marks = drawn_marks(chance, 9, [2, 9, 10 ** 9][turn], 3, [1, 4, 10 ** 9][turn])
            for kind in KINDS:
                for k in (1, 2, 3, 5):
                    row = self.assert_least(chance, kind, marks, k)[0]
                    self.assertEqual(reckoned(kind, marks, row), least_of_all_cuts(kind, marks, k))

    def test_one_mark(self):
        marks = [((3, 1), (-7, 3), 10 ** 9)]
        for kind in KINDS:
            for k in (0, 1, 59):
                self.assertEqual(step_least(kind, marks, k), ([(-7, 3)], [[(0, 1)]] * (k + 1)))
                self.assert_least(chance_of(1), kind, marks, k)

    def test_sixty_marks(self):
        chance = chance_of(224)
        for most, weight in [(4, 2), (10 ** 9, 10 ** 9)]:
            marks = drawn_marks(chance, 60, most, 2, weight)
            for kind in KINDS:
                for k in (0, 4, 59):
                    self.assert_least(chance, kind, marks, k, 1)

    def test_more_steps_miss_no_more(self):
        chance = chance_of(225)
        marks = drawn_marks(chance, 12)
        for kind in KINDS:
            measures = [value(step_least(kind, marks, k)[1][k][-1]) for k in range(14)]
            self.assertEqual(measures, sorted(measures, reverse=True))
            self.assertEqual(measures[11:], [0, 0, 0])

    def test_counts_below_and_above_are_refused(self):
        for kind in KINDS:
            for k in NO_COUNTS:
                self.assert_refused(NoNumber, step_least, kind, FIVE, k)
                self.assert_refused(NoNumber, step_least, kind, FIVE[:1], k)
            step_least(kind, FIVE, 0)
            step_least(kind, FIVE, 59)

    def test_what_is_no_measure_goes_first(self):
        for kind in NO_KINDS:
            for k in [0, 1, 59] + NO_COUNTS:
                with self.subTest(kind=kind, k=k):
                    self.assert_refused(NoKind, step_least, kind, FIVE, k)

    def test_lists_stay_and_answers_stay(self):
        for kind in KINDS:
            for k in (0, 2, 7):
                marks = list(FIVE)
                first = step_least(kind, marks, k)
                kept = (list(first[0]), copied(first[1]))
                self.assertEqual(marks, FIVE)
                first[0][0] = (77, 1)
                first[1][0].clear()
                first[1][k][:] = [(77, 1)]
                self.assertEqual(step_least(kind, marks, k), kept)


class LowTest(StepCase):
    def test_one_entry_more_or_less(self):
        chance = chance_of(231)
        for turn in range(6):
            marks = drawn_marks(chance, chance.randint(1, 5), [2, 9][turn % 2], 2)
            for kind in KINDS:
                table = step_least(kind, marks, 3)[1]
                for j in range(4):
                    for i in range(len(marks)):
                        for step in (LITTLE, -LITTLE, 1, -1):
                            other = with_entry(table, j, i, told(value(table[j][i]) + step))
                            self.assertIs(is_low(kind, marks, other), is_low_by_words(kind, marks, other))

    def test_written_out(self):
        marks = [((spot, 1), (height, 1), 1) for spot, height in enumerate([0, 4, 6])]
        # By sum the stretches cost 0, 4, 6 from the first on and 2 from the second to the third.
        for table, wanted in [
            ([[0, 4, 6]], True),
            ([[0, 0, 0]], True),
            ([[-1, -2, -3]], True),
            ([[0, 4, 7]], False),
            ([[0, 5, 6]], False),
            ([[LITTLE, 4, 6]], False),
            ([[0, 4, 6], [0, 0, 2]], True),
            ([[0, 4, 6], [0, 0, 2 + LITTLE]], False),
            ([[0, 4, 6], [0, LITTLE, 2]], False),
            ([[0, 4, 6], [LITTLE, 0, 2]], False),
            ([[-1, 4, 6], [0, 0, 2]], False),
            ([[-1, 4, 6], [0, -1, 1]], True),
            ([[0, 1, 6], [0, 0, 2]], False),
            ([[0, 1, 6], [0, 0, 1]], True),
            ([[0, 4, 6], [0, 0, 2], [0, 0, 0]], True),
            ([[0, 4, 6], [0, 0, 2], [0, 0, 1]], False),
        ]:
            self.assertIs(is_low("sum", marks, [told_all(entries) for entries in table]), wanted)
        # By far they cost 0, 2, 3 and 1.
        for table, wanted in [
            ([[0, 2, 3]], True),
            ([[0, 2, 3 + LITTLE]], False),
            ([[0, 2, 3], [0, 0, 1]], True),
            ([[0, 2, 3], [0, 0, 1 + LITTLE]], False),
            ([[-9, 2, 3], [0, 0, 1]], True),
            ([[-9, -9, 3], [0, 0, 1]], False),
            ([[-9, -9, 3], [0, 0, 0]], True),
        ]:
            self.assertIs(is_low("far", marks, [told_all(entries) for entries in table]), wanted)
        # By square 0, 8, 56/3 and 2.
        for table, wanted in [
            ([[0, 8, Fraction(56, 3)]], True),
            ([[0, 8, 19]], False),
            ([[0, 8, 18], [0, 0, 2]], True),
            ([[0, 8, 18], [0, 0, 3]], False),
        ]:
            self.assertIs(is_low("square", marks, [told_all(entries) for entries in table]), wanted)

    def test_drawn_tables(self):
        chance = chance_of(232)
        seen = [0, 0]
        for turn in range(600):
            marks = drawn_marks(chance, chance.randint(1, 3), 3, 1, 2)
            kind = KINDS[turn % 3]
            table = [[(chance.randint(-1, 2), 2) for mark in marks] for entries in range(chance.randint(1, 3))]
            table = [told_all([Fraction(*entry) for entry in entries]) for entries in table]
            wanted = is_low_by_words(kind, marks, table)
            seen[wanted] += 1
            self.assertIs(is_low(kind, marks, table), wanted)
        self.assertGreater(min(seen), 50)

    def test_what_is_no_measure_is_refused(self):
        for kind in NO_KINDS:
            with self.subTest(kind=kind):
                self.assert_refused(NoKind, is_low, kind, FIVE, [[(0, 1)] * 5])
                self.assert_refused(NoKind, is_low, kind, FIVE, [[(99, 1)] * 5] * 3)

    def test_lists_stay(self):
        for kind in KINDS:
            marks = list(FIVE)
            table = step_least(kind, marks, 2)[1]
            kept = copied(table)
            is_low(kind, marks, table)
            self.assertEqual((marks, table), (FIVE, kept))


class ShownTest(StepCase):
    def test_changed_ones(self):
        chance = chance_of(233)
        for turn in range(8):
            marks = drawn_marks(chance, chance.randint(1, 5), [2, 9][turn % 2], 2)
            for kind in KINDS:
                for k in (0, 1, 3):
                    row, table = self.assert_least(chance, kind, marks, k, 1)
                    for spot, height in enumerate(row):
                        for step in (LITTLE, -1):
                            other = changed(row, spot, told(value(height) + step))
                            alike = measured(kind, marks, other) == measured(kind, marks, row)
                            wanted = alike and steps_of(other) <= k
                            self.assertIs(step_shown(kind, marks, k, other, table), wanted)
                    for step in (LITTLE, -LITTLE):
                        last = told(value(table[k][-1]) + step)
                        other = with_entry(table, k, len(marks) - 1, last)
                        self.assertIs(step_shown(kind, marks, k, row, other), False)
                    high = with_entry(table, 0, 0, told(LITTLE))
                    self.assertIs(step_shown(kind, marks, k, row, high), False)

    def test_lists_too_few_or_too_many_and_another_count(self):
        for kind in KINDS:
            row, table = step_least(kind, FIVE, 2)
            self.assertIs(step_shown(kind, FIVE, 2, row, table), True)
            self.assertIs(step_shown(kind, FIVE, 2, row, table[:2]), False)
            self.assertIs(step_shown(kind, FIVE, 2, row, table[1:]), False)
            self.assertIs(step_shown(kind, FIVE, 2, row, table + [list(table[2])]), False)
            self.assertIs(step_shown(kind, FIVE, 2, row, []), False)
            for k in (-1, 0, 1, 3, 4, 59, 60):
                self.assertIs(step_shown(kind, FIVE, k, row, table), False)
            # Fewer lists for fewer steps are fit for that count, but not for a row of more steps.
            self.assertEqual(steps_of(row), 2)
            self.assertIs(step_shown(kind, FIVE, 1, row, table[:2]), False)

    def test_a_row_of_more_steps(self):
        for kind in KINDS:
            table = [[(0, 1)] * 5] * 2
            self.assertIs(is_low(kind, FIVE, table), True)
            # It misses nothing, as the last entry says, but has four steps.
            row = [mark[1] for mark in FIVE]
            self.assertIs(step_shown(kind, FIVE, 1, row, table), False)
            self.assertIs(step_shown(kind, FIVE, 4, row, [[(0, 1)] * 5] * 5), True)

    def test_a_table_that_is_not_low(self):
        marks = FIVE[:2]
        row = told_all([9, 9])
        for kind in KINDS:
            last = measured(kind, marks, row)
            self.assertIs(step_shown(kind, marks, 0, row, [[(0, 1), last]]), False)

    def test_another_row_that_misses_alike(self):
        marks = [((0, 1), (0, 1), 1), ((1, 1), (4, 1), 1)]
        table = step_least("sum", marks, 0)[1]
        for height in (0, 1, 2, 4):
            self.assertIs(step_shown("sum", marks, 0, told_all([height, height]), table), True)
        self.assertIs(step_shown("sum", marks, 0, told_all([5, 5]), table), False)

    def test_what_is_no_measure_is_refused(self):
        row = [mark[1] for mark in FIVE]
        for kind in NO_KINDS:
            with self.subTest(kind=kind):
                self.assert_refused(NoKind, step_shown, kind, FIVE, 4, row, [[(0, 1)] * 5] * 5)
                self.assert_refused(NoKind, step_shown, kind, FIVE, 0, row, [])
                self.assert_refused(NoKind, step_shown, kind, FIVE, -1, row, [])

    def test_lists_stay(self):
        for kind in KINDS:
            marks = list(FIVE)
            row, table = step_least(kind, marks, 2)
            kept = (list(row), copied(table))
            step_shown(kind, marks, 2, row, table)
            self.assertEqual((marks, row, table), (FIVE, kept[0], kept[1]))


if __name__ == "__main__":
    unittest.main()
