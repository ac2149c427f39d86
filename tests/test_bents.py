import unittest
from fractions import Fraction

from leastmiss.bents import bent_through, height_at, is_even, row_of
from leastmiss.errors import NoBend
from tests.drawn import (
    Case,
    chance_of,
    changed,
    dot,
    drawn_fraction,
    drawn_marks,
    drawn_row,
    heights_of,
    told,
    told_all,
    value,
    values,
)

BIG = 10 ** 99
LITTLE = Fraction(1, 10 ** 30)
PLACES = [(0, 1), (1, 1), (-1, 1), (5, 2), (-7, 3), (10 ** 6, 1), (-10 ** 6, 7), (BIG, 7), (1, BIG), (-BIG, BIG - 1)]


def at_places(places, heights):
    return [(place, height, 1) for place, height in zip(places, heights)]


def even_pulls(marks, spots):
    """Pulls at some marks, even by two less than there are of them and by no greater bend."""
    places = [value(marks[spot][0]) for spot in spots]
    pulls = [Fraction(0)] * len(marks)
    for spot, place in zip(spots, places):
        bottom = Fraction(1)
        for other in places:
            if other != place:
                bottom *= place - other
        pulls[spot] = 1 / bottom
    return told_all(pulls)


class HeightTest(Case):
    def test_written_out(self):
        self.assertEqual(height_at([(5, 2)], (7, 1)), (5, 2))
        self.assertEqual(height_at([(1, 1), (2, 1)], (-3, 1)), (-5, 1))
        self.assertEqual(height_at([(1, 2), (0, 1), (3, 1)], (-1, 2)), (5, 4))
        self.assertEqual(height_at([(1, 1), (1, 1), (1, 1), (1, 1)], (10, 1)), (1111, 1))
        self.assertEqual(height_at([(1, 1), (-1, 1), (1, 1), (-1, 1)], (-10, 1)), (1111, 1))
        self.assertEqual(height_at([(4, 1), (3, 1), (2, 1), (1, 1)], (0, 1)), (4, 1))

    def test_each_count_of_numbers_at_each_place(self):
        chance = chance_of(101)
        for count in range(1, 5):
            for place in PLACES:
                for numbers in [
                    drawn_row(chance, count, 9, 5),
                    drawn_row(chance, count, BIG, BIG),
                    [(0, 1)] * count,
                    [(0, 1)] * (count - 1) + [(1, 3)],
                ]:
                    wanted = sum(value(number) * value(place) ** power for power, number in enumerate(numbers))
                    self.assert_fraction(height_at(numbers, place), wanted)

    def test_the_row_is_the_heights_at_the_places(self):
        chance = chance_of(102)
        for count in range(1, 61):
            marks = drawn_marks(chance, count)
            for bend in range(4):
                numbers = drawn_row(chance, bend + 1)
                self.assert_fractions(row_of(numbers, marks), heights_of(numbers, marks))
                self.assertEqual(row_of(numbers, marks), [height_at(numbers, mark[0]) for mark in marks])

    def test_lists_stay_and_answers_stay(self):
        numbers = [(1, 1), (2, 1), (-1, 3)]
        marks = at_places(PLACES[:4], [(1, 1)] * 4)
        height_at(numbers, (2, 1))
        first = row_of(numbers, marks)
        self.assertEqual(numbers, [(1, 1), (2, 1), (-1, 3)])
        self.assertEqual(marks, at_places(PLACES[:4], [(1, 1)] * 4))
        kept = list(first)
        first[0] = (77, 1)
        self.assertEqual(row_of(numbers, marks), kept)
        self.assertIsNot(row_of(numbers, marks), row_of(numbers, marks))


class ThroughTest(Case):
    def test_written_out(self):
        self.assertEqual(bent_through([((3, 1), (5, 2), 4)]), [(5, 2)])
        self.assertEqual(bent_through([((0, 1), (1, 1), 1), ((2, 1), (2, 1), 9)]), [(1, 1), (1, 2)])
        self.assertEqual(bent_through(at_places([(-1, 1), (0, 1), (1, 1)], [(1, 1), (0, 1), (1, 1)])),
                         [(0, 1), (0, 1), (1, 1)])
        self.assertEqual(bent_through(at_places([(-2, 1), (0, 1), (1, 1), (2, 1)], [(-8, 1), (0, 1), (1, 1), (8, 1)])),
                         [(0, 1), (0, 1), (0, 1), (1, 1)])

    def test_drawn_lines_are_found_again(self):
        chance = chance_of(111)
        for turn in range(200):
            count = turn % 4 + 1
            most = 10 ** 6 if turn % 3 == 0 else 9
            marks = drawn_marks(chance, count, most)
            numbers = bent_through(marks)
            self.assert_fractions(numbers, values(numbers))
            self.assertEqual(len(numbers), count)
            self.assertEqual(heights_of(numbers, marks), [value(mark[1]) for mark in marks])
            numbers = drawn_row(chance, count)
            laid = at_places([mark[0] for mark in marks], told_all(heights_of(numbers, marks)))
            self.assertEqual(bent_through(laid), numbers)

    def test_a_level_and_a_line_have_noughts_at_the_end(self):
        places = [(-7, 2), (0, 1), (1, 3), (10 ** 6, 1)]
        for count in range(1, 5):
            level = at_places(places[:count], [(5, 3)] * count)
            self.assertEqual(bent_through(level), [(5, 3)] + [(0, 1)] * (count - 1))
        for count in range(2, 5):
            marks = at_places(places[:count], [(0, 1)] * count)
            line = at_places(places[:count], told_all(heights_of([(1, 2), (-3, 1)], marks)))
            self.assertEqual(bent_through(line), [(1, 2), (-3, 1)] + [(0, 1)] * (count - 2))

    def test_weights_don_t_matter(self):
        chance = chance_of(112)
        for count in range(1, 5):
            marks = drawn_marks(chance, count)
            heavy = [(mark[0], mark[1], mark[2] * 10 ** 9) for mark in marks]
            self.assertEqual(bent_through(heavy), bent_through(marks))

    def test_a_hundred_figures(self):
        marks = at_places([(-BIG, 7), (1, BIG), (BIG, BIG - 1), (BIG, 1)], [(BIG, 1), (1, BIG), (-BIG, 3), (0, 1)])
        self.assertEqual(heights_of(bent_through(marks), marks), [value(mark[1]) for mark in marks])

    def test_five_and_more_are_refused(self):
        chance = chance_of(113)
        for count in (5, 6, 7, 20, 59, 60):
            self.assert_refused(NoBend, bent_through, drawn_marks(chance, count))
            level = [((spot, 1), (1, 1), 1) for spot in range(count)]
            self.assert_refused(NoBend, bent_through, level)

    def test_lists_stay_and_answers_stay(self):
        marks = at_places([(-1, 1), (0, 1), (2, 1)], [(1, 1), (0, 1), (1, 2)])
        kept_marks = list(marks)
        first = bent_through(marks)
        kept = list(first)
        first.clear()
        self.assertEqual(marks, kept_marks)
        self.assertEqual(bent_through(marks), kept)


class EvenTest(Case):
    def assert_even_up_to(self, marks, pulls, most):
        for bend in range(4):
            self.assertIs(is_even(marks, pulls, bend), bend <= most)

    def test_written_out(self):
        marks = at_places([(0, 1), (1, 1), (2, 1), (3, 1), (4, 1)], [(9, 1)] * 5)
        for pulls, most in [
            ([1, 0, 0, 0, 0], -1),
            ([1, -1, 0, 0, 0], 0),
            ([0, 0, 5, 0, -5], 0),
            ([1, -2, 1, 0, 0], 1),
            ([1, -1, -1, 1, 0], 1),
            ([1, -3, 3, -1, 0], 2),
            ([1, -4, 6, -4, 1], 3),
            ([0, 0, 0, 0, 0], 3),
        ]:
            self.assert_even_up_to(marks, told_all(pulls), most)

    def test_each_total_counts_by_itself(self):
        marks = at_places([(-2, 1), (-1, 1), (1, 1), (2, 1)], [(0, 1)] * 4)
        self.assert_even_up_to(marks, told_all([-1, 2, -2, 1]), 2)
        self.assert_even_up_to(marks, told_all([1, 0, 0, 1]), -1)
        self.assert_even_up_to(marks, told_all([1, -1, -1, 1]), 1)
        self.assert_even_up_to(marks, told_all([-1, 0, 0, 1]), 0)

    def test_of_just_the_bend_they_are_made_for(self):
        chance = chance_of(131)
        for turn in range(200):
            most = turn % 4
            count = chance.randint(most + 2, 12)
            marks = drawn_marks(chance, count, 10 ** 6 if turn % 3 == 0 else 9)
            spots = sorted(chance.sample(range(count), most + 2))
            pulls = even_pulls(marks, spots)
            self.assert_even_up_to(marks, pulls, most)
            off = changed(pulls, spots[0], told(value(pulls[spots[0]]) + LITTLE))
            self.assert_even_up_to(marks, off, -1)

    def test_great_places_and_great_pulls(self):
        marks = at_places([(-BIG, 1), (-1, BIG), (BIG - 1, BIG), (10 ** 6, 1), (BIG, 7)], [(0, 1)] * 5)
        for most in range(4):
            pulls = even_pulls(marks, list(range(most + 2)))
            self.assert_even_up_to(marks, pulls, most)
            self.assert_even_up_to(marks, [told(BIG * value(pull)) for pull in pulls], most)

    def test_all_noughts_and_one_mark(self):
        chance = chance_of(132)
        for count in (1, 2, 5, 60):
            self.assert_even_up_to(drawn_marks(chance, count), [(0, 1)] * count, 3)
        self.assert_even_up_to([((0, 1), (1, 1), 1)], [(1, 9)], -1)

    def test_neither_heights_nor_weights_matter(self):
        marks = [((0, 1), (7, 1), 3), ((1, 1), (-2, 3), 9), ((3, 1), (1, 1), 1)]
        self.assert_even_up_to(marks, [(2, 1), (-3, 1), (1, 1)], 1)

    def test_bent_lines_have_the_total_nought(self):
        chance = chance_of(133)
        for turn in range(100):
            most = turn % 4
            marks = drawn_marks(chance, 7)
            pulls = even_pulls(marks, sorted(chance.sample(range(7), most + 2)))
            for bend in range(most + 1):
                numbers = [drawn_fraction(chance, 50, 7) for spot in range(bend + 1)]
                self.assertEqual(dot(pulls, row_of(numbers, marks)), 0)

    def test_lists_stay(self):
        marks = at_places([(0, 1), (1, 1), (2, 1)], [(0, 1)] * 3)
        kept = list(marks)
        pulls = told_all([1, -2, 1])
        for bend in range(4):
            is_even(marks, pulls, bend)
        self.assertEqual(marks, kept)
        self.assertEqual(pulls, [(1, 1), (-2, 1), (1, 1)])


if __name__ == "__main__":
    unittest.main()
