import unittest
from fractions import Fraction
from itertools import combinations

from leastmiss.balance import level_sum, line_sum
from leastmiss.bending import bend_least, bend_shown
from leastmiss.bents import bent_through, is_even, row_of
from leastmiss.errors import NoBend, NoKind
from leastmiss.measures import is_fair, measured
from tests.drawn import (
    NO_KINDS,
    Case,
    chance_of,
    changed,
    drawn_fraction,
    drawn_marks,
    drawn_row,
    heights_of,
    reckoned,
    told,
    told_all,
    value,
)

TWO_KINDS = ["far", "square"]
LITTLE = Fraction(1, 10 ** 30)
NO_BENDS = [
    -1, 4, 5, -2, 60, 10 ** 99, -10 ** 99, True, False, None, "", "0", "1", "three", (), (1,), (0, 1), [], [1], {}, 1.0,
]
FIVE = [((spot, 1), (height, 1), 1 + spot % 2) for spot, height in enumerate([3, -1, 4, 1, -5])]


def moved(marks, numbers, misses):
    """The same places, with heights on a bent line and some misses put on."""
    row = heights_of(numbers, marks)
    return [(mark[0], told(height + miss), mark[2]) for mark, height, miss in zip(marks, row, misses)]


def greatest_level(marks, bend):
    """The least greatest miss, reckoned apart: the greatest that any bend + 2 marks ask for."""
    found = Fraction(0)
    for some in combinations(marks, bend + 2):
        shares = []
        for mark in some:
            share = Fraction(1)
            for other in some:
                if other != mark:
                    share /= value(mark[0]) - value(other[0])
            shares.append(share)
        level = sum(share * value(mark[1]) for share, mark in zip(shares, some))
        found = max(found, abs(level) / sum(abs(share) for share in shares))
    return found


def others_near(chance, numbers):
    """Bent lines with as many numbers, close to this one and far from it."""
    for spot in range(len(numbers)):
        for step in [LITTLE, -LITTLE, Fraction(1, 7), Fraction(-1, 7), 10 ** 6]:
            yield changed(numbers, spot, told(value(numbers[spot]) + step))
    for turn in range(6):
        steps = drawn_row(chance, len(numbers), 3, 50)
        yield [told(value(one) + value(step)) for one, step in zip(numbers, steps)]
    yield drawn_row(chance, len(numbers))


class BendCase(Case):
    def assert_least(self, chance, kind, marks, bend, tries=True):
        told_of = bend_least(kind, marks, bend)
        self.assertIs(type(told_of), tuple)
        self.assertEqual(len(told_of), 2)
        numbers, pulls = told_of
        self.assert_in_lowest_terms(numbers)
        self.assert_in_lowest_terms(pulls)
        self.assertEqual((len(numbers), len(pulls)), (bend + 1, len(marks)))
        self.assertIs(is_fair(kind, marks, row_of(numbers, marks), pulls), True)
        self.assertIs(is_even(marks, pulls, bend), True)
        self.assertIs(bend_shown(kind, marks, numbers, pulls), True)
        if len(marks) <= bend + 1:
            self.assertEqual(numbers, bent_through(marks) + [(0, 1)] * (bend + 1 - len(marks)))
            self.assertEqual(pulls, [(0, 1)] * len(marks))
        elif kind == "far":
            self.assert_takes_turns(marks, numbers, pulls)
        if tries:
            self.assert_none_misses_less(chance, kind, marks, numbers)
        return told_of

    def assert_none_misses_less(self, chance, kind, marks, numbers):
        least = reckoned(kind, marks, row_of(numbers, marks))
        for other in others_near(chance, numbers):
            measure = reckoned(kind, marks, told_all(heights_of(other, marks)))
            self.assertLessEqual(least, measure)
            if len(marks) >= len(numbers) and other != numbers:
                # The least one is the only one.
                self.assertLess(least, measure)

    def assert_takes_turns(self, marks, numbers, pulls):
        misses = [value(mark[1]) - height for mark, height in zip(marks, heights_of(numbers, marks))]
        greatest = max(abs(miss) for miss in misses)
        if greatest == 0:
            self.assertEqual(pulls, [(0, 1)] * len(marks))
            return
        spots = [spot for spot, pull in enumerate(pulls) if pull != (0, 1)]
        self.assertEqual(len(spots), len(numbers) + 1)
        self.assertEqual(sum(abs(value(pull)) for pull in pulls), 1)
        for spot in spots:
            self.assertEqual(abs(misses[spot]), greatest)
            self.assertGreater(misses[spot] * value(pulls[spot]), 0)
        for spot, after in zip(spots, spots[1:]):
            self.assertEqual(misses[spot], -misses[after])


class WrittenOutTest(BendCase):
    def test_levels(self):
        marks = [((0, 1), (0, 1), 1), ((1, 1), (4, 1), 3), ((2, 1), (1, 1), 1)]
        self.assertEqual(bend_least("far", marks, 0), ([(2, 1)], [(-1, 2), (1, 2), (0, 1)]))
        self.assertEqual(bend_least("square", marks, 0), ([(13, 5)], [(-13, 5), (21, 5), (-8, 5)]))

    def test_lines(self):
        marks = [((0, 1), (0, 1), 1), ((1, 1), (1, 1), 1), ((2, 1), (0, 1), 1)]
        self.assertEqual(bend_least("far", marks, 1), ([(1, 2), (0, 1)], [(-1, 4), (1, 2), (-1, 4)]))
        self.assertEqual(bend_least("square", marks, 1), ([(1, 3), (0, 1)], [(-1, 3), (2, 3), (-1, 3)]))

    def test_weights_matter_to_square_alone(self):
        marks = [((0, 1), (0, 1), 1), ((1, 1), (1, 1), 10), ((2, 1), (0, 1), 1)]
        self.assertEqual(bend_least("far", marks, 1), ([(1, 2), (0, 1)], [(-1, 4), (1, 2), (-1, 4)]))
        self.assertEqual(bend_least("square", marks, 0), ([(5, 6)], [(-5, 6), (5, 3), (-5, 6)]))

    def test_twice_bent(self):
        marks = [((spot, 1), (height, 1), 1) for spot, height in zip([-1, 0, 1, 2], [1, 0, 1, 12])]
        self.assertEqual(bend_least("far", marks, 2)[1], [(-1, 8), (3, 8), (-3, 8), (1, 8)])
        self.assert_least(chance_of(1), "far", marks, 2)


class LeastTest(BendCase):
    def test_fewer_marks_than_numbers_and_as_many(self):
        chance = chance_of(141)
        for turn in range(20):
            for bend in range(4):
                for count in range(1, bend + 2):
                    marks = drawn_marks(chance, count, 10 ** 9 if turn % 4 == 0 else 9)
                    for kind in TWO_KINDS:
                        self.assert_least(chance, kind, marks, bend)

    def test_a_line_through_all_has_noughts_behind(self):
        marks = [((1, 1), (5, 1), 2), ((3, 1), (9, 1), 1)]
        for kind in TWO_KINDS:
            self.assertEqual(bend_least(kind, marks, 3), ([(3, 1), (2, 1), (0, 1), (0, 1)], [(0, 1), (0, 1)]))
            self.assertEqual(bend_least(kind, marks[:1], 2), ([(5, 1), (0, 1), (0, 1)], [(0, 1)]))
            self.assertEqual(bend_least(kind, marks, 1), ([(3, 1), (2, 1)], [(0, 1), (0, 1)]))

    def test_one_more_and_some_more(self):
        chance = chance_of(142)
        for turn in range(12):
            for bend in range(4):
                for count in (bend + 2, bend + 3, 9):
                    marks = drawn_marks(chance, count, [2, 9, 40][turn % 3], turn % 3 + 1)
                    for kind in TWO_KINDS:
                        self.assert_least(chance, kind, marks, bend)

    def test_far_against_every_choice_of_marks(self):
        chance = chance_of(143)
        for turn in range(60):
            bend = turn % 4
            marks = drawn_marks(chance, chance.randint(bend + 2, 9), [1, 3, 9][turn % 3], 2)
            numbers = bend_least("far", marks, bend)[0]
            self.assert_fraction(measured("far", marks, row_of(numbers, marks)), greatest_level(marks, bend))

    def test_many_marks(self):
        chance = chance_of(144)
        for most in (3, 10 ** 3, 10 ** 9):
            for bend in range(4):
                marks = drawn_marks(chance, 60 if bend < 3 else 40, most, 3, 10 ** 9)
                for kind in TWO_KINDS:
                    self.assert_least(chance, kind, marks, bend, tries=most == 10 ** 3)

    def test_sixty_marks_and_three_bends(self):
        chance = chance_of(145)
        for kind in TWO_KINDS:
            self.assert_least(chance, kind, drawn_marks(chance, 60, 50), 3)

    def test_marks_on_a_bent_line(self):
        chance = chance_of(146)
        for bend in range(4):
            for count in (bend + 2, bend + 3, 20, 60):
                marks = drawn_marks(chance, count)
                for less in range(bend + 1):
                    numbers = drawn_row(chance, less + 1)
                    laid = moved(marks, numbers, [0] * count)
                    for kind in TWO_KINDS:
                        found = self.assert_least(chance, kind, laid, bend, tries=count < 20)
                        self.assertEqual(found, (numbers + [(0, 1)] * (bend - less), [(0, 1)] * count))

    def test_marks_on_a_bent_line_but_for_some(self):
        chance = chance_of(147)
        for turn in range(40):
            bend = turn % 4
            count = chance.randint(bend + 2, 15)
            misses = [Fraction(0)] * count
            for again in range(chance.randint(1, 4)):
                misses[chance.randrange(count)] = Fraction(chance.randint(-3, 3), 2)
            marks = moved(drawn_marks(chance, count), drawn_row(chance, bend + 1), misses)
            for kind in TWO_KINDS:
                self.assert_least(chance, kind, marks, bend, tries=turn < 20)

    def test_misses_that_take_turns_are_found_again(self):
        chance = chance_of(148)
        for bend in range(4):
            for count in (bend + 2, 11, 40):
                misses = [Fraction((-1) ** spot * 5, 3) for spot in range(count)]
                numbers = drawn_row(chance, bend + 1)
                marks = moved(drawn_marks(chance, count), numbers, misses)
                self.assertEqual(self.assert_least(chance, "far", marks, bend)[0], numbers)

    def test_great_places_and_great_heights(self):
        chance = chance_of(149)
        for bend in range(4):
            for most in (10 ** 9, 10 ** 30):
                marks = [
                    (told(Fraction(place, 3)), drawn_fraction(chance, most, 7), chance.randint(1, 10 ** 9))
                    for place in sorted(chance.sample(range(-3 * 10 ** 6, 3 * 10 ** 6), 15))
                ]
                for kind in TWO_KINDS:
                    self.assert_least(chance, kind, marks, bend)

    def test_places_close_together_and_far_apart(self):
        places = [(-10 ** 6, 1), (-1, 10 ** 6), (0, 1), (1, 10 ** 6), (1, 1), (10 ** 6, 1)]
        marks = [(place, (height, 1), 1) for place, height in zip(places, [5, -3, 10 ** 9, 0, 7, -10 ** 9])]
        for bend in range(4):
            for kind in TWO_KINDS:
                self.assert_least(chance_of(150), kind, marks, bend)


class RefusedTest(BendCase):
    def test_what_is_no_measure_goes_first(self):
        for kind in NO_KINDS + ["sum"]:
            for bend in [0, 1, 3] + NO_BENDS:
                with self.subTest(kind=kind, bend=bend):
                    self.assert_refused(NoKind, bend_least, kind, FIVE, bend)

    def test_what_is_no_bend(self):
        for kind in TWO_KINDS:
            for bend in NO_BENDS:
                with self.subTest(kind=kind, bend=bend):
                    self.assert_refused(NoBend, bend_least, kind, FIVE, bend)
                    self.assert_refused(NoBend, bend_least, kind, FIVE[:1], bend)


class ShownTest(BendCase):
    def assert_shown_alone(self, kind, marks, numbers, pulls):
        self.assertIs(bend_shown(kind, marks, numbers, pulls), True)
        for spot, pull in enumerate(pulls):
            for other in [value(pull) + LITTLE, value(pull) - LITTLE, value(pull) + 1]:
                self.assertIs(bend_shown(kind, marks, numbers, changed(pulls, spot, told(other))), False)
            if pull != (0, 1):
                self.assertIs(bend_shown(kind, marks, numbers, changed(pulls, spot, (0, 1))), False)
                self.assertIs(bend_shown(kind, marks, numbers, changed(pulls, spot, told(-value(pull)))), False)
        least = reckoned(kind, marks, row_of(numbers, marks))
        for spot, number in enumerate(numbers):
            for step in [LITTLE, -LITTLE, 1]:
                other = changed(numbers, spot, told(value(number) + step))
                shown = bend_shown(kind, marks, other, pulls)
                self.assertIs(type(shown), bool)
                if kind != "sum" or reckoned(kind, marks, row_of(other, marks)) != least:
                    self.assertIs(shown, False)

    def test_what_is_told_and_what_is_changed(self):
        chance = chance_of(151)
        for turn in range(24):
            bend = turn % 4
            marks = drawn_marks(chance, chance.randint(bend + 1, 8))
            for kind in TWO_KINDS:
                numbers, pulls = bend_least(kind, marks, bend)
                self.assert_shown_alone(kind, marks, numbers, pulls)
            for numbers, pulls in [level_sum(marks), line_sum(marks)]:
                self.assert_shown_alone("sum", marks, numbers, pulls)

    def test_written_out(self):
        marks = [((0, 1), (0, 1), 1), ((1, 1), (1, 1), 1), ((2, 1), (0, 1), 1)]
        pulls = [(-1, 4), (1, 2), (-1, 4)]
        self.assertIs(bend_shown("far", marks, [(1, 2), (0, 1)], pulls), True)
        self.assertIs(bend_shown("far", marks, [(1, 2)], pulls), True)
        self.assertIs(bend_shown("far", marks, [(1, 2)], [(-1, 2), (1, 2), (0, 1)]), True)
        # Fair, but even by a lesser bend only; even, but not fair.
        self.assertIs(bend_shown("far", marks, [(1, 2), (0, 1)], [(-1, 2), (1, 2), (0, 1)]), False)
        self.assertIs(bend_shown("far", marks, [(1, 2), (0, 1), (0, 1)], pulls), False)
        self.assertIs(bend_shown("far", marks, [(1, 3), (0, 1)], pulls), False)
        self.assertIs(bend_shown("square", marks, [(1, 3), (0, 1)], pulls), False)
        self.assertIs(bend_shown("square", marks, [(1, 3), (0, 1)], [(-1, 3), (2, 3), (-1, 3)]), True)
        self.assertIs(bend_shown("sum", marks, [(0, 1), (0, 1)], [(-1, 2), (1, 1), (-1, 2)]), True)
        self.assertIs(bend_shown("sum", marks, [(1, 1), (0, 1)], [(-1, 2), (1, 1), (-1, 2)]), False)
        self.assertIs(bend_shown("sum", marks, [(0, 1), (0, 1)], [(-1, 1), (1, 1), (0, 1)]), False)

    def test_by_sum_of_three_and_four_numbers(self):
        marks = [((spot, 1), (height, 1), 6) for spot, height in enumerate([0, 0, 0, 0, 5])]
        self.assertIs(bend_shown("sum", marks, [(0, 1)] * 4, [(6, 1)] * 5), False)
        self.assertIs(bend_shown("sum", marks, [(0, 1)] * 4, told_all([1, -4, 6, -4, 1])), False)
        heavy = marks[:4] + [((4, 1), (5, 1), 1)]
        self.assertIs(bend_shown("sum", heavy, [(0, 1)] * 4, told_all([1, -4, 6, -4, 1])), True)
        self.assertIs(bend_shown("sum", heavy, [(0, 1)] * 3, told_all([1, -4, 6, -4, 1])), True)

    def test_whatever_is_let_by_misses_alike(self):
        chance = chance_of(152)
        for turn in range(300):
            kind = TWO_KINDS[turn % 2]
            bend = chance.randint(0, 2)
            marks = drawn_marks(chance, chance.randint(bend + 2, 5), 2, 1, 2)
            numbers = [drawn_fraction(chance, 2, 2) for spot in range(bend + 1)]
            pulls = bend_least(kind, marks, bend)[1]
            if bend_shown(kind, marks, numbers, pulls):
                self.assertEqual(numbers, bend_least(kind, marks, bend)[0])

    def test_what_is_no_measure_is_refused(self):
        for kind in NO_KINDS:
            with self.subTest(kind=kind):
                self.assert_refused(NoKind, bend_shown, kind, FIVE, [(0, 1)], [(0, 1)] * 5)
                self.assert_refused(NoKind, bend_shown, kind, FIVE, [(0, 1), (1, 1)], [(1, 1)] * 5)
                self.assert_refused(NoKind, bend_shown, kind, FIVE, None, None)


class NothingChangesTest(BendCase):
    def test_lists_stay_and_answers_stay(self):
        for kind in TWO_KINDS:
            for bend in range(4):
                for count in (2, 5):
                    marks = FIVE[:count]
                    first = bend_least(kind, marks, bend)
                    kept = (list(first[0]), list(first[1]))
                    self.assertEqual(marks, FIVE[:count])
                    self.assertIsNot(first[0], first[1])
                    first[0][0] = (77, 1)
                    first[1].clear()
                    self.assertEqual(bend_least(kind, marks, bend), kept)
                    numbers, pulls = list(kept[0]), list(kept[1])
                    bend_shown(kind, marks, numbers, pulls)
                    self.assertEqual((marks, numbers, pulls), (FIVE[:count], kept[0], kept[1]))


if __name__ == "__main__":
    unittest.main()
