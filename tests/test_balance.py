import unittest
from fractions import Fraction
from itertools import combinations

from leastmiss.balance import level_sum, line_sum
from leastmiss.bending import bend_shown
from leastmiss.bents import is_even, row_of
from leastmiss.measures import is_fair
from tests.drawn import (
    Case,
    chance_of,
    changed,
    drawn_fraction,
    drawn_marks,
    drawn_row,
    heights_of,
    reckoned,
    told,
    value,
)

LITTLE = Fraction(1, 10 ** 30)
FIVE = [((spot, 1), (height, 1), 1 + spot % 2) for spot, height in enumerate([3, -1, 4, 1, -5])]


def of_heights(heights, weights=None):
    weights = weights or [1] * len(heights)
    return [((spot, 1), told(height), weight) for spot, (height, weight) in enumerate(zip(heights, weights))]


def sum_of(marks, numbers):
    return sum(
        mark[2] * abs(value(mark[1]) - height) for mark, height in zip(marks, heights_of(numbers, marks))
    )


def least_sum_of_levels(marks):
    return min(sum_of(marks, [mark[1]]) for mark in marks)


def least_sum_of_lines(marks):
    """Reckoned apart: of all lines through two marks one is least."""
    found = []
    for one, other in combinations(marks, 2):
        slope = (value(other[1]) - value(one[1])) / (value(other[0]) - value(one[0]))
        found.append(sum_of(marks, [told(value(one[1]) - slope * value(one[0])), told(slope)]))
    return min(found)


class SumCase(Case):
    def assert_paper(self, marks, told_of, bend):
        self.assertIs(type(told_of), tuple)
        self.assertEqual(len(told_of), 2)
        numbers, pulls = told_of
        self.assert_in_lowest_terms(numbers)
        self.assert_in_lowest_terms(pulls)
        self.assertEqual((len(numbers), len(pulls)), (bend + 1, len(marks)))
        self.assertIs(is_fair("sum", marks, row_of(numbers, marks), pulls), True)
        self.assertIs(is_even(marks, pulls, bend), True)
        self.assertIs(bend_shown("sum", marks, numbers, pulls), True)

    def assert_least(self, chance, marks):
        level = level_sum(marks)
        line = line_sum(marks)
        self.assert_paper(marks, level, 0)
        self.assert_paper(marks, line, 1)
        for numbers in (level[0], line[0]):
            least = reckoned("sum", marks, row_of(numbers, marks))
            for spot in range(len(numbers)):
                for step in [LITTLE, -LITTLE, Fraction(1, 3), -2]:
                    other = changed(numbers, spot, told(value(numbers[spot]) + step))
                    self.assertLessEqual(least, sum_of(marks, other))
            for turn in range(5):
                self.assertLessEqual(least, sum_of(marks, drawn_row(chance, len(numbers))))


class LevelAndLineTest(SumCase):
    def test_one_mark(self):
        for height in [(5, 2), (0, 1), (-10 ** 30, 7)]:
            for weight in (1, 7, 10 ** 9):
                marks = [((3, 1), height, weight)]
                self.assertEqual(line_sum(marks)[0], [height, (0, 1)])
                self.assertEqual(level_sum(marks)[0], [height])
                self.assert_least(chance_of(1), marks)

    def test_two_marks(self):
        marks = [((1, 1), (5, 1), 2), ((3, 1), (9, 1), 3)]
        self.assertEqual(line_sum(marks)[0], [(3, 1), (2, 1)])
        self.assertEqual(level_sum(marks), ([(9, 1)], [(-2, 1), (2, 1)]))
        self.assert_least(chance_of(2), marks)
        self.assert_least(chance_of(2), of_heights([1, 2]))

    def test_written_out(self):
        marks = of_heights([0, 10, 1, 2, 50])
        self.assertEqual(level_sum(marks), ([(2, 1)], [(-1, 1), (1, 1), (-1, 1), (0, 1), (1, 1)]))
        marks = of_heights([0, 1, 2, 9, 4], [1, 1, 1, 1, 1])
        numbers, pulls = line_sum(marks)
        self.assertEqual(numbers, [(0, 1), (1, 1)])
        self.assertEqual(pulls[3], (1, 1))

    def test_heights_alike(self):
        for count in (1, 2, 3, 10, 60):
            marks = of_heights([Fraction(7, 3)] * count)
            self.assertEqual(level_sum(marks)[0], [(7, 3)])
            self.assertEqual(line_sum(marks)[0], [(7, 3), (0, 1)])
            self.assert_least(chance_of(3), marks)

    def test_all_on_a_line(self):
        chance = chance_of(161)
        for count in (2, 3, 4, 20, 60):
            marks = drawn_marks(chance, count)
            row = heights_of([(1, 2), (-3, 1)], marks)
            laid = [(mark[0], told(height), mark[2]) for mark, height in zip(marks, row)]
            self.assertEqual(line_sum(laid)[0], [(1, 2), (-3, 1)])
            self.assert_least(chance, laid)

    def test_one_mark_off_the_line(self):
        chance = chance_of(162)
        for count in (4, 5, 9, 30, 60):
            for spot in (0, 1, count // 2, count - 1):
                for step in (-5, Fraction(1, 2), 10 ** 9):
                    row = [Fraction(3 * one, 2) - 4 for one in range(count)]
                    row[spot] += step
                    marks = of_heights(row)
                    # At an end and next to it few marks can hold the line against the one.
                    if 0 < spot < count - 1 and count > 5:
                        self.assertEqual(line_sum(marks)[0], [(-4, 1), (3, 2)])
                    self.assert_least(chance, marks)

    def test_one_weight_greater_than_all_others_together(self):
        chance = chance_of(163)
        for turn in range(30):
            marks = drawn_marks(chance, chance.randint(2, 12))
            spot = chance.randrange(len(marks))
            heavy = changed(marks, spot, (marks[spot][0], marks[spot][1], 10 ** 9))
            self.assertEqual(level_sum(heavy)[0], [marks[spot][1]])
            self.assert_least(chance, heavy)
            numbers = line_sum(heavy)[0]
            self.assertEqual(heights_of(numbers, [marks[spot]]), [value(marks[spot][1])])

    def test_weights_of_one_and_great_ones(self):
        chance = chance_of(164)
        for turn in range(60):
            count = chance.randint(2, 12)
            for weight in (1, 2, 10 ** 9):
                marks = drawn_marks(chance, count, [1, 3, 9][turn % 3], turn % 2 + 1, weight)
                if turn % 4 == 0:
                    marks = [(mark[0], mark[1], weight) for mark in marks]
                self.assert_least(chance, marks)

    def test_against_every_level_and_every_line_through_two(self):
        chance = chance_of(165)
        for turn in range(150):
            marks = drawn_marks(chance, chance.randint(2, 9), [1, 2, 9][turn % 3], turn % 2 + 1, [1, 3, 50][turn % 3])
            self.assertEqual(sum_of(marks, level_sum(marks)[0]), least_sum_of_levels(marks))
            self.assertEqual(sum_of(marks, line_sum(marks)[0]), least_sum_of_lines(marks))

    def test_sixty_marks(self):
        chance = chance_of(166)
        for most, weight in [(3, 1), (9, 10 ** 9), (10 ** 9, 5), (10 ** 30, 10 ** 40)]:
            self.assert_least(chance, drawn_marks(chance, 60, most, 3, weight))

    def test_great_places(self):
        chance = chance_of(167)
        places = sorted(chance.sample(range(-10 ** 6, 10 ** 6), 20))
        marks = [(told(Fraction(place, 7)), drawn_fraction(chance, 10 ** 9, 5), 3) for place in places]
        self.assert_least(chance, marks)


class NothingChangesTest(SumCase):
    def test_lists_stay_and_answers_stay(self):
        for deed in (level_sum, line_sum):
            for count in (1, 2, 5):
                marks = FIVE[:count]
                first = deed(marks)
                kept = (list(first[0]), list(first[1]))
                self.assertEqual(marks, FIVE[:count])
                self.assertIsNot(first[0], first[1])
                first[0][0] = (77, 1)
                first[1].clear()
                self.assertEqual(deed(marks), kept)


if __name__ == "__main__":
    unittest.main()
