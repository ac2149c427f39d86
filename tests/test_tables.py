import unittest
from fractions import Fraction
from itertools import permutations

from leastmiss.errors import NoAnswer
from leastmiss.tables import solved
from tests.drawn import Case, chance_of, dot, drawn_fraction, drawn_row, told, told_all, value

BIG = 10 ** 99


def whole(rows):
    return [[(one, 1) for one in row] for row in rows]


def drawn_table(chance, count, most, bottom):
    return [[drawn_fraction(chance, most, bottom) for column in range(count)] for row in range(count)]


def determinant(table):
    if len(table) == 0:
        return 1
    return sum(
        (-1) ** column * value(table[0][column]) * determinant([row[:column] + row[column + 1:] for row in table[1:]])
        for column in range(len(table))
    )


def summed(chance, rows):
    """A row that is a sum of the others, each taken some times."""
    times = [Fraction(chance.randint(-3, 3), 2) for row in rows]
    return [told(sum(time * value(row[spot]) for time, row in zip(times, rows))) for spot in range(len(rows[0]))]


class SolvedTest(Case):
    def assert_solves(self, table, right):
        found = solved(table, right)
        self.assert_in_lowest_terms(found)
        self.assertEqual(len(found), len(right))
        for row, one in zip(table, right):
            self.assertEqual(dot(row, found), value(one))

    def test_written_out(self):
        self.assertEqual(solved(whole([[4]]), [(6, 1)]), [(3, 2)])
        self.assertEqual(solved(whole([[1, 1], [1, -1]]), [(5, 1), (2, 1)]), [(7, 2), (3, 2)])
        self.assertEqual(solved([[(1, 2), (1, 3)], [(1, 4), (1, 5)]], [(1, 1), (0, 1)]), [(12, 1), (-15, 1)])
        table = whole([[2, 1, -1], [-3, -1, 2], [-2, 1, 2]])
        self.assertEqual(solved(table, [(8, 1), (-11, 1), (-3, 1)]), [(2, 1), (3, 1), (-1, 1)])

    def test_a_nought_at_the_first_place(self):
        self.assertEqual(solved(whole([[0, 2], [3, 5]]), [(4, 1), (1, 1)]), [(-3, 1), (2, 1)])
        self.assertEqual(solved(whole([[0, 0, 1], [0, 1, 0], [1, 0, 0]]), [(1, 1), (2, 1), (3, 1)]),
                         [(3, 1), (2, 1), (1, 1)])

    def test_a_nought_that_comes_up_on_the_way(self):
        self.assertEqual(solved(whole([[1, 1, 0], [1, 1, 1], [0, 1, 0]]), [(3, 1), (7, 1), (2, 1)]),
                         [(1, 1), (2, 1), (4, 1)])

    def test_rows_in_any_order(self):
        rows = [([0, 1, 2, 0], 1), ([3, 0, 0, 1], 2), ([0, 0, 5, 1], 3), ([1, 1, 1, 1], 4)]
        wanted = solved(whole([row for row, one in rows]), [(one, 1) for row, one in rows])
        for order in permutations(rows):
            table = whole([row for row, one in order])
            right = [(one, 1) for row, one in order]
            self.assertEqual(solved(table, right), wanted)
            self.assert_solves(table, right)

    def test_drawn_ones_of_one_to_five_rows(self):
        chance = chance_of(121)
        refused = 0
        for turn in range(600):
            count = turn % 5 + 1
            table = drawn_table(chance, count, 2, 2) if turn % 2 else drawn_table(chance, count, 30, 9)
            right = drawn_row(chance, count)
            if determinant(table) == 0:
                refused += 1
                self.assert_refused(NoAnswer, solved, table, right)
            else:
                self.assert_solves(table, right)
        self.assertGreater(refused, 20)

    def test_a_hundred_figures(self):
        table = [[(BIG, 1), (1, BIG)], [told(Fraction(BIG + 1, BIG - 1)), (-BIG, 1)]]
        self.assert_solves(table, [(1, BIG), (BIG, 7)])

    def test_right_of_noughts(self):
        self.assertEqual(solved(whole([[1, 2], [3, 4]]), [(0, 1), (0, 1)]), [(0, 1), (0, 1)])

    def test_sums_of_other_rows_are_refused(self):
        chance = chance_of(122)
        for turn in range(100):
            count = turn % 4 + 2
            rows = drawn_table(chance, count, 5, 3)[1:]
            spot = chance.randrange(count)
            table = rows[:spot] + [summed(chance, rows)] + rows[spot:]
            point = drawn_row(chance, count)
            fits = told_all([dot(row, point) for row in table])
            off = fits[:spot] + [told(value(fits[spot]) + 1)] + fits[spot + 1:]
            self.assert_refused(NoAnswer, solved, table, fits)
            self.assert_refused(NoAnswer, solved, table, off)

    def test_noughts_are_refused(self):
        self.assert_refused(NoAnswer, solved, [[(0, 1)]], [(0, 1)])
        self.assert_refused(NoAnswer, solved, [[(0, 1)]], [(1, 1)])
        self.assert_refused(NoAnswer, solved, whole([[0, 1], [0, 2]]), [(1, 1), (2, 1)])
        self.assert_refused(NoAnswer, solved, whole([[0, 0], [1, 2]]), [(0, 1), (2, 1)])
        self.assert_refused(NoAnswer, solved, whole([[1, 2], [1, 2]]), [(1, 1), (1, 1)])
        self.assert_refused(NoAnswer, solved, whole([[1, 2], [1, 2]]), [(1, 1), (2, 1)])

    def test_what_is_handed_in_stays(self):
        rows = [[0, 2, 1], [3, 5, 1], [1, 1, 1]]
        table = whole(rows)
        right = [(4, 1), (1, 1), (2, 1)]
        first = solved(table, right)
        self.assertEqual(table, whole(rows))
        self.assertEqual(right, [(4, 1), (1, 1), (2, 1)])
        kept = list(first)
        first[0] = (77, 1)
        first.pop()
        self.assertEqual(solved(table, right), kept)
        self.assertIsNot(solved(table, right), solved(table, right))
        table = whole([[0, 2], [0, 4]])
        self.assert_refused(NoAnswer, solved, table, right[:2])
        self.assertEqual(table, whole([[0, 2], [0, 4]]))


if __name__ == "__main__":
    unittest.main()
