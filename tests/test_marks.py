import unittest
from fractions import Fraction

from leastmiss.errors import NoMarks
from leastmiss.fractions import fraction
from leastmiss.marks import marks_of, misses_of

BIG = 10 ** 99
THREE = [((-1, 2), (3, 1), 1), ((1, 3), (-2, 5), 7), ((1, 2), (0, 1), 2)]


def many(count):
    return [(fraction(k - 20, 7), fraction(k * k - 9, 4), k % 3 + 1) for k in range(count)]


def turned(some):
    # Every seventh, then on from the next free one: no order in sight for sixty.
    return [some[k] for start in range(7) for k in range(start, len(some), 7)]


class MarksTest(unittest.TestCase):
    def assert_no_marks(self, some):
        kept = list(some)
        with self.assertRaises(NoMarks) as caught:
            marks_of(some)
        self.assertIs(type(caught.exception), NoMarks)
        self.assertEqual(some, kept)

    def test_three_in_each_order(self):
        for order in [(0, 1, 2), (0, 2, 1), (1, 0, 2), (1, 2, 0), (2, 0, 1), (2, 1, 0)]:
            with self.subTest(order=order):
                got = marks_of([THREE[k] for k in order])
                self.assertIs(type(got), list)
                self.assertEqual(got, THREE)

    def test_order_is_by_the_places_value(self):
        places = [(-7, 2), (-1, 1), (-1, 3), (0, 1), (1, 3), (2, 5), (1, 2), (3, 1), (BIG, 7)]
        marks = [(place, (0, 1), 1) for place in places]
        self.assertEqual(marks_of(sorted(marks)), marks)
        self.assertEqual(marks_of(marks[::-1]), marks)

    def test_heights_and_weights_may_be_alike(self):
        marks = [((k, 1), (5, 2), 4) for k in range(5)]
        self.assertEqual(marks_of(marks[::-1]), marks)

    def test_close_places_of_a_hundred_figures(self):
        marks = [(fraction(BIG + k, BIG - 1), (BIG, 1), BIG) for k in range(4)]
        self.assertEqual(marks_of(marks[::-1]), marks)

    def test_one(self):
        self.assertEqual(marks_of([((1, 2), (-3, 1), 5)]), [((1, 2), (-3, 1), 5)])

    def test_every_count_to_sixty(self):
        for count in range(1, 61):
            marks = many(count)
            self.assertEqual(marks_of(marks), marks)
            self.assertEqual(marks_of(marks[::-1]), marks)
            self.assertEqual(marks_of(turned(marks)), marks)

    def test_none_and_more_than_sixty_are_refused(self):
        self.assert_no_marks([])
        self.assert_no_marks(many(61))
        self.assert_no_marks(turned(many(61)))
        self.assert_no_marks(many(75))

    def test_two_with_one_place_are_refused_wherever_they_stand(self):
        marks = turned(many(9))
        for twin in range(9):
            for spot in range(10):
                again = (marks[twin][0], (99, 2), 8)
                self.assert_no_marks(marks[:spot] + [again] + marks[spot:])

    def test_two_with_one_place_at_the_bounds(self):
        mark = ((1, 2), (3, 1), 1)
        self.assert_no_marks([mark, mark])
        self.assert_no_marks([mark, ((1, 2), (4, 1), 2)])
        self.assert_no_marks(many(59) + many(1))
        self.assert_no_marks(many(1) + many(59))
        self.assert_no_marks(many(60) + many(1))

    def test_the_list_is_a_new_one(self):
        for given in (list(THREE), THREE[::-1], THREE[:1]):
            kept = list(given)
            first = marks_of(given)
            second = marks_of(given)
            self.assertEqual(given, kept)
            self.assertIsNot(first, given)
            self.assertIsNot(first, second)
            self.assertEqual(first, second)

    def test_later_changes_reach_no_other_list(self):
        given = THREE[::-1]
        told = marks_of(given)
        given[0] = ((9, 1), (9, 1), 9)
        given.append(((8, 1), (8, 1), 8))
        self.assertEqual(told, THREE)
        given = THREE[::-1]
        marks_of(given).clear()
        self.assertEqual(given, THREE[::-1])
        self.assertEqual(marks_of(given), THREE)


class MissesTest(unittest.TestCase):
    def test_heights_less_the_rows(self):
        row = [(1, 2), (-2, 5), (1, 3)]
        got = misses_of(THREE, row)
        self.assertIs(type(got), list)
        self.assertEqual(got, [(5, 2), (0, 1), (-1, 3)])

    def test_one_mark(self):
        self.assertEqual(misses_of([((7, 1), (1, 6), 3)], [(2, 3)]), [(-1, 2)])

    def test_every_count_to_sixty(self):
        for count in range(1, 61):
            marks = many(count)
            row = [fraction(3 * k - 40, k % 5 + 1) for k in range(count)]
            wanted = [Fraction(*mark[1]) - Fraction(*height) for mark, height in zip(marks, row)]
            told = [(miss.numerator, miss.denominator) for miss in wanted]
            self.assertEqual(misses_of(marks, row), told)

    def test_neither_places_nor_weights_matter(self):
        row = [(1, 2), (1, 3), (1, 4)]
        moved = [((k, 1), THREE[k][1], 50 + k) for k in range(3)]
        self.assertEqual(misses_of(moved, row), misses_of(THREE, row))

    def test_a_hundred_figures(self):
        marks = [((0, 1), fraction(BIG + 1, BIG - 1), 1)]
        miss = Fraction(BIG + 1, BIG - 1) - Fraction(-BIG, BIG + 3)
        self.assertEqual(misses_of(marks, [fraction(-BIG, BIG + 3)]), [(miss.numerator, miss.denominator)])

    def test_what_is_handed_in_stays(self):
        marks = list(THREE)
        row = [(1, 2), (1, 3), (1, 4)]
        first = misses_of(marks, row)
        self.assertEqual(marks, THREE)
        self.assertEqual(row, [(1, 2), (1, 3), (1, 4)])
        self.assertIsNot(first, misses_of(marks, row))

    def test_a_changed_answer_changes_nothing_told_later(self):
        marks = list(THREE)
        row = [(1, 2), (1, 3), (1, 4)]
        first = misses_of(marks, row)
        kept = list(first)
        first[0] = (77, 1)
        first.pop()
        self.assertEqual(misses_of(marks, row), kept)
        self.assertEqual(row, [(1, 2), (1, 3), (1, 4)])

    def test_a_row_changed_later_changes_nothing_told(self):
        row = [(1, 2), (1, 3), (1, 4)]
        told = misses_of(THREE, row)
        kept = list(told)
        row[0] = (9, 1)
        self.assertEqual(told, kept)

    def test_a_row_of_the_heights_misses_nothing(self):
        self.assertEqual(misses_of(THREE, [mark[1] for mark in THREE]), [(0, 1)] * 3)


if __name__ == "__main__":
    unittest.main()
