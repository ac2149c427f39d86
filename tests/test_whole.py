"""Over the whole program: what is told is let by, and whatever is let by misses alike."""

import unittest
from fractions import Fraction
from itertools import product

from leastmiss.balance import level_sum, line_sum
from leastmiss.bending import bend_least, bend_shown
from leastmiss.bents import row_of
from leastmiss.marks import marks_of
from leastmiss.measures import measured
from leastmiss.rising import rise_least, rise_shown
from leastmiss.steps import step_least, step_shown
from tests.drawn import KINDS, Case, chance_of, drawn_marks, told, told_all

HALVES = told_all([Fraction(top, 2) for top in (-2, -1, 0, 1, 2)])


def negative(one):
    return (-one[0], one[1])


def mirrored(marks):
    """The marks seen from the other side: places turned round."""
    return marks_of([(negative(mark[0]), mark[1], mark[2]) for mark in marks])


def upside_down(marks):
    """Turned round and upside down, so that what rises rises again."""
    return marks_of([(negative(mark[0]), negative(mark[1]), mark[2]) for mark in marks])


def bent_fits(marks):
    for bend in range(4):
        for kind in ("far", "square"):
            yield kind, bend, bend_least(kind, marks, bend)
    yield "sum", 0, level_sum(marks)
    yield "sum", 1, line_sum(marks)


def small_marks(chance, count):
    return [((spot, 1), chance.choice(HALVES), chance.randint(1, 2)) for spot in range(count)]


class TwoAskersTest(Case):
    def drawn(self, seed, turns):
        chance = chance_of(seed)
        for turn in range(turns):
            weight = [1, 4, 10 ** 9][turn % 3]
            yield drawn_marks(chance, chance.randint(1, 9), [1, 3, 9, 10 ** 9][turn % 4], turn % 3 + 1, weight)

    def test_bent_lines(self):
        for marks in self.drawn(301, 60):
            others = list(bent_fits(mirrored(marks)))
            for (kind, bend, fit), (same, alike, other) in zip(bent_fits(marks), others):
                self.assertIs(bend_shown(kind, marks, fit[0], fit[1]), True)
                numbers = [one if spot % 2 == 0 else negative(one) for spot, one in enumerate(other[0])]
                pulls = other[1][::-1]
                self.assertIs(bend_shown(kind, marks, numbers, pulls), True)
                row = row_of(fit[0], marks)
                self.assertEqual(measured(kind, marks, row), measured(kind, marks, row_of(numbers, marks)))
                if kind == "square" or (kind == "far" and len(marks) > bend + 1):
                    self.assertEqual(row_of(numbers, marks), row)

    def test_rising_rows(self):
        for marks in self.drawn(302, 100):
            for kind in KINDS:
                row, pulls = rise_least(kind, marks)
                self.assertIs(rise_shown(kind, marks, row, pulls), True)
                other = rise_least(kind, upside_down(marks))
                again = [negative(one) for one in other[0][::-1]]
                self.assertIs(rise_shown(kind, marks, again, [negative(one) for one in other[1][::-1]]), True)
                self.assertEqual(measured(kind, marks, again), measured(kind, marks, row))
                if kind == "square":
                    self.assertEqual(again, row)

    def test_rows_of_few_steps(self):
        for marks in self.drawn(303, 30):
            for kind in KINDS:
                for k in (0, 1, 2, 4):
                    row, table = step_least(kind, marks, k)
                    self.assertIs(step_shown(kind, marks, k, row, table), True)
                    again = step_least(kind, mirrored(marks), k)[0][::-1]
                    self.assertIs(step_shown(kind, marks, k, again, table), True)
                    self.assertEqual(measured(kind, marks, again), measured(kind, marks, row))


class EveryPaperTest(Case):
    """All papers of small numbers are handed in: each one that is let by is right."""

    def test_levels(self):
        chance = chance_of(311)
        seen = {}
        for turn in range(30):
            marks = small_marks(chance, chance.randint(1, 3))
            for kind in KINDS:
                fit = level_sum(marks) if kind == "sum" else bend_least(kind, marks, 0)
                least = measured(kind, marks, row_of(fit[0], marks))
                for level in HALVES:
                    for pulls in product(HALVES, repeat=len(marks)):
                        if bend_shown(kind, marks, [level], list(pulls)):
                            seen[kind] = seen.get(kind, 0) + 1
                            self.assertEqual(measured(kind, marks, [level] * len(marks)), least)
        self.assertGreater(min(seen[kind] for kind in KINDS), 8)

    def test_rising_rows(self):
        chance = chance_of(312)
        seen = {}
        for turn in range(12):
            marks = small_marks(chance, chance.randint(1, 3))
            for kind in KINDS:
                least = measured(kind, marks, rise_least(kind, marks)[0])
                for row in product(HALVES, repeat=len(marks)):
                    if measured(kind, marks, list(row)) == least:
                        continue
                    # None that misses more is let by, and none that misses less rises.
                    for pulls in product(HALVES[1:4], repeat=len(marks)):
                        self.assertIs(rise_shown(kind, marks, list(row), list(pulls)), False)
                        seen[kind] = seen.get(kind, 0) + 1
        self.assertGreater(min(seen[kind] for kind in KINDS), 1000)

    def test_rows_of_few_steps(self):
        chance = chance_of(313)
        entries = told_all([0, Fraction(1, 2), 1])
        seen = 0
        for turn in range(6):
            marks = small_marks(chance, 2)
            for kind in KINDS:
                for k in (0, 1):
                    least = measured(kind, marks, step_least(kind, marks, k)[0])
                    for row in product(HALVES, repeat=2):
                        for flat in product(entries, repeat=2 * (k + 1)):
                            table = [list(flat[2 * spot:2 * spot + 2]) for spot in range(k + 1)]
                            if step_shown(kind, marks, k, list(row), table):
                                seen += 1
                                self.assertEqual(measured(kind, marks, list(row)), least)
        self.assertGreater(seen, 20)


class GreatNumbersTest(Case):
    def assert_all_let_by(self, marks, k):
        for kind, bend, fit in bent_fits(marks):
            self.assertIs(bend_shown(kind, marks, fit[0], fit[1]), True)
        for kind in KINDS:
            row, pulls = rise_least(kind, marks)
            self.assertIs(rise_shown(kind, marks, row, pulls), True)
            row, table = step_least(kind, marks, k)
            self.assertIs(step_shown(kind, marks, k, row, table), True)

    def test_sixty_marks_of_thirty_figures(self):
        self.assert_all_let_by(drawn_marks(chance_of(321), 60, 10 ** 30, 9, 10 ** 40), 7)

    def test_numbers_of_a_hundred_figures(self):
        big = 10 ** 99
        places = [-big, Fraction(-1, big), Fraction(1, big + 1), 1, big]
        heights = [big, Fraction(-big, 7), Fraction(1, big), 0, Fraction(big, big - 1)]
        self.assert_all_let_by([(told(place), told(height), big + 7) for place, height in zip(places, heights)], 2)


if __name__ == "__main__":
    unittest.main()
