import unittest

from leastmiss.balance import level_sum, line_sum
from leastmiss.bending import bend_least
from leastmiss.bents import row_of
from leastmiss.desk import Desk
from leastmiss.errors import NoBend, NoKind, NoMarks, NoName, NoNumber, NoRow, NoText
from leastmiss.marks import marks_of
from leastmiss.measures import measured
from leastmiss.rising import rise_least
from leastmiss.steps import step_least
from leastmiss.texts import read_marks, show_marks
from tests.drawn import KINDS, Case, chance_of, drawn_marks, drawn_row

ONE = "marks one 0:0*1 1:4*3 2:1*1"
NO_NAMES = ["", "ninechars", "One", "ONE", "one1", "1", "o_e", "o-e", "one.", "*", "\t", "one\n", "\u00e9", "0:0*1"]
NO_WORDS = ["", "Far", "FAR", "fa", "farr", "least", "0", "sum|", "far\n", "\tsum"]
NO_NUMBERS = ["", "1/2", "+1", "01", "-0", "007", "one", "1.", "0x1", "1" * 41, "1\n", "-", "\u0661"]
ROWS = [
    "marks new 0:0*1", "drop one", "names", "show one", "bend one far 1", "rise one sum", "steps one square 1",
    "judge one far 0 0 0",
]


def written(some):
    return " ".join([str(one[0]) if one[1] == 1 else f"{one[0]}/{one[1]}" for one in some])


def a_desk():
    desk = Desk()
    desk.say(ONE)
    desk.say("marks other 1/2:1/3*1")
    return desk


def state(desk):
    names = desk.say("names")
    return names, [desk.say("show " + name) for name in names.split(" ") if name]


class DeskCase(Case):
    def assert_row_refused(self, error, row):
        desk = a_desk()
        before = state(desk)
        with self.subTest(row=row):
            self.assert_refused(error, desk.say, row)
            self.assertEqual(state(desk), before)

    def assert_said(self, desk, row, wanted):
        got = desk.say(row)
        self.assertIs(type(got), str)
        self.assertEqual(got, wanted)


class KeptTest(DeskCase):
    def test_a_new_desk_keeps_none(self):
        self.assert_said(Desk(), "names", "")
        self.assert_refused(NoName, Desk().say, "show one")

    def test_marks_show_drop_names(self):
        desk = Desk()
        self.assert_said(desk, "marks b 3:1/2*1 -1/3:0*7", "ok")
        self.assert_said(desk, "show b", "-1/3:0*7 3:1/2*1")
        self.assert_said(desk, "marks abcdefgh 0:0*1", "ok")
        self.assert_said(desk, "marks ab 0:0*1", "ok")
        self.assert_said(desk, "marks z 0:0*1", "ok")
        self.assert_said(desk, "names", "ab abcdefgh b z")
        self.assert_said(desk, "drop b", "ok")
        self.assert_said(desk, "names", "ab abcdefgh z")
        self.assert_refused(NoName, desk.say, "show b")
        self.assert_refused(NoName, desk.say, "drop b")
        for name in ("z", "ab", "abcdefgh"):
            self.assert_said(desk, "drop " + name, "ok")
        self.assert_said(desk, "names", "")
        self.assert_said(desk, "marks b 5:5*5", "ok")
        self.assert_said(desk, "show b", "5:5*5")

    def test_every_letter_is_good_for_a_name(self):
        desk = Desk()
        for letter in "zyxwvutsrqponmlkjihgfedcba":
            self.assert_said(desk, "marks " + letter + " 0:0*1", "ok")
        self.assert_said(desk, "names", "a b c d e f g h i j k l m n o p q r s t u v w x y z")

    def test_words_of_the_rows_are_good_for_names(self):
        desk = Desk()
        for name in ("marks", "drop", "names", "show", "bend", "far", "sum"):
            self.assert_said(desk, "marks " + name + " 1:2*3", "ok")
            self.assert_said(desk, "show " + name, "1:2*3")
        self.assert_said(desk, "judge far far 5", "3")

    def test_new_marks_by_a_name_in_use(self):
        desk = a_desk()
        self.assert_said(desk, "marks one 7:7*7", "ok")
        self.assert_said(desk, "show one", "7:7*7")
        self.assert_said(desk, "names", "one other")
        self.assert_said(desk, "show other", "1/2:1/3*1")

    def test_sixty_marks(self):
        chance = chance_of(251)
        marks = drawn_marks(chance, 60, 10 ** 20, 9, 10 ** 30)
        turned = marks[::-1]
        desk = Desk()
        self.assert_said(desk, "marks many " + show_marks(turned), "ok")
        self.assert_said(desk, "show many", show_marks(marks))

    def test_two_desks_beside_each_other(self):
        one = a_desk()
        other = Desk()
        self.assert_said(other, "names", "")
        other.say("marks one 9:9*9")
        self.assert_said(one, "show one", "0:0*1 1:4*3 2:1*1")
        one.say("drop one")
        self.assert_said(other, "show one", "9:9*9")
        self.assert_said(one, "names", "other")


class AnswerTest(DeskCase):
    def test_written_out(self):
        desk = Desk()
        desk.say("marks a 0:0*1 1:1*1 2:0*1")
        self.assert_said(desk, "bend a far 1", "1/2 | 1/2 0 | -1/4 1/2 -1/4")
        self.assert_said(desk, "bend a square 1", "2/3 | 1/3 0 | -1/3 2/3 -1/3")
        self.assert_said(desk, "bend a far 3", "0 | 0 2 -1 0 | 0 0 0")
        self.assert_said(desk, "rise a square", "1/2 | 0 1/2 1/2 | 0 1/2 -1/2")
        self.assert_said(desk, "rise a far", "1/2 | -1/2 1/2 1/2 | 0 1/2 -1/2")
        self.assert_said(desk, "steps a square 0", "2/3 | 1/3 1/3 1/3")
        self.assert_said(desk, "steps a far 2", "0 | 0 1 0")
        self.assert_said(desk, "judge a far 0 1/3 -1", "1")
        self.assert_said(desk, "judge a sum 0 1/3 -1", "5/3")
        self.assert_said(desk, "judge a square 0 1/3 -1", "13/9")

    def test_answers_are_those_of_the_functions(self):
        chance = chance_of(252)
        for turn in range(25):
            marks = drawn_marks(chance, chance.randint(1, 9), [3, 9, 10 ** 30][turn % 3], 3, [2, 10 ** 9][turn % 2])
            desk = Desk()
            desk.say("marks it " + show_marks(marks[::-1]))
            for kind in KINDS:
                self.assert_fits(desk, kind, marks)
                row = drawn_row(chance, len(marks))
                self.assert_said(desk, "judge it " + kind + " " + written(row), written([measured(kind, marks, row)]))
            self.assertEqual(desk.say("show it"), show_marks(marks))

    def assert_fits(self, desk, kind, marks):
        for bend in range(4):
            if kind == "sum" and bend > 1:
                self.assert_refused(NoKind, desk.say, f"bend it sum {bend}")
                continue
            if kind == "sum":
                numbers, pulls = [level_sum, line_sum][bend](marks)
            else:
                numbers, pulls = bend_least(kind, marks, bend)
            measure = written([measured(kind, marks, row_of(numbers, marks))])
            self.assert_said(desk, f"bend it {kind} {bend}", " | ".join([measure, written(numbers), written(pulls)]))
        row, pulls = rise_least(kind, marks)
        measure = written([measured(kind, marks, row)])
        self.assert_said(desk, f"rise it {kind}", " | ".join([measure, written(row), written(pulls)]))
        for k in (0, 1, 5, 59):
            row = step_least(kind, marks, k)[0]
            measure = written([measured(kind, marks, row)])
            self.assert_said(desk, f"steps it {kind} {k}", " | ".join([measure, written(row)]))

    def test_more_than_forty_figures(self):
        desk = Desk()
        big = "9" * 40
        desk.say(f"marks a 0:{big}*{big} 1:-{big}*{big} 2:1/{big}*1")
        square = desk.say(f"judge a square {big} {big} 1/{big}")
        self.assertEqual(square, str(4 * int(big) ** 3))
        self.assertGreater(len(square), 100)
        marks = marks_of(read_marks(desk.say("show a")))
        numbers, pulls = bend_least("square", marks, 1)
        answer = desk.say("bend a square 1")
        self.assertEqual(answer.split(" | ")[1:], [written(numbers), written(pulls)])

    def test_the_same_asked_again(self):
        desk = a_desk()
        for row in ROWS[2:]:
            self.assertEqual(desk.say(row), desk.say(row))
        self.assertEqual(desk.say("judge one sum -1/2 4 1"), "1/2")


class NoRowTest(DeskCase):
    def test_what_is_no_text(self):
        for row in [None, 0, 1, True, False, [], ["names"], ("names",), {}, b"names", 1.5]:
            self.assert_row_refused(NoRow, row)

    def test_other_first_words(self):
        for row in [
            "", " ", "  ", "name", "Names", "NAMES", "namess", "help", "mark one 0:0*1", "one", "far", "names\n", "\tnames",
            "drop\tone", "show\none", "names,", "|", "shown one", "Bend one far 1",
        ]:
            self.assert_row_refused(NoRow, row)

    def test_a_word_too_few_and_too_many(self):
        for row in ROWS:
            words = row.split(" ")
            if words[0] not in ("marks", "judge"):
                self.assert_row_refused(NoRow, row + " 1")
                self.assert_row_refused(NoRow, row + " one")
            if words[0] == "judge":
                words = words[:4]
            for count in range(1, len(words)):
                self.assert_row_refused(NoRow, " ".join(words[:count]))

    def test_the_count_goes_ahead_of_the_words(self):
        for row in [
            "drop", "show Two two", "marks Two", "bend two far", "bend Two least", "bend two far 1 1", "rise two",
            "rise two far 1", "steps two least", "steps two far x x", "judge two far", "judge one least", "judge Two",
        ]:
            self.assert_row_refused(NoRow, row)

    def test_blanks(self):
        for row in ROWS:
            self.assert_row_refused(NoRow, " " + row)
            self.assert_row_refused(NoRow, "  " + row)
            if row.split(" ")[0] not in ("marks", "judge"):
                self.assert_row_refused(NoRow, row + " ")
                if " " in row:
                    self.assert_row_refused(NoRow, row.replace(" ", "  ", 1))
                    self.assert_row_refused(NoRow, "  ".join(row.rsplit(" ", 1)))

    def test_a_word_without_signs_counts_as_a_word(self):
        self.assert_row_refused(NoName, "show ")
        self.assert_row_refused(NoName, "drop ")
        self.assert_row_refused(NoName, "marks  0:0*1")
        self.assert_row_refused(NoText, "marks new ")
        self.assert_row_refused(NoText, "marks new 0:0*1 ")
        self.assert_row_refused(NoText, "marks new  0:0*1")
        self.assert_row_refused(NoName, "rise  far")
        self.assert_row_refused(NoKind, "rise one ")
        self.assert_row_refused(NoKind, "bend one  1")
        self.assert_row_refused(NoText, "bend one far ")
        self.assert_row_refused(NoText, "steps one far ")
        self.assert_row_refused(NoText, "judge other far ")
        self.assert_row_refused(NoRow, "judge one far 0 0 0 ")
        self.assert_row_refused(NoText, "judge one far 0 0 ")

    def test_more_than_sixty_marks_or_fractions(self):
        many = [f"{spot}:0*1" for spot in range(61)]
        desk = Desk()
        self.assert_said(desk, "marks many " + " ".join(many[:60]), "ok")
        self.assert_said(desk, "judge many sum " + " ".join(["1"] * 60), "60")
        before = state(desk)
        for row in [
            "marks many " + " ".join(many),
            "marks Many " + " ".join(many),
            "marks many " + " ".join(["x"] * 61),
            "judge many sum " + " ".join(["1"] * 61),
            "judge none least " + " ".join(["x"] * 61),
        ]:
            self.assert_refused(NoRow, desk.say, row)
        self.assertEqual(state(desk), before)


class NoNameTest(DeskCase):
    def test_names_that_are_none(self):
        for name in NO_NAMES:
            for row in ["marks {} 0:0*1", "drop {}", "show {}", "bend {} far 1", "rise {} far", "steps {} far 1", "judge {} far 0"]:
                self.assert_row_refused(NoName, row.replace("{}", name))

    def test_names_by_which_no_marks_stand(self):
        for name in ("two", "on", "onee", "o", "others", "abcdefgh"):
            for row in ["drop {}", "show {}", "bend {} far 1", "rise {} far", "steps {} far 1", "judge {} far 0 0 0"]:
                self.assert_row_refused(NoName, row.replace("{}", name))

    def test_it_goes_ahead_of_what_stands_behind(self):
        for name in ("two", "One", "ninechars", ""):
            for row in ["bend {} far x", "bend {} least 1", "bend {} least x", "bend {} far 9", "bend {} sum 2", "rise {} least",
                        "steps {} least x", "steps {} far 60", "judge {} least 0", "judge {} far x", "judge {} far 0 0"]:
                self.assert_row_refused(NoName, row.replace("{}", name))
        self.assert_row_refused(NoName, "marks New x")
        self.assert_row_refused(NoName, "marks New 0:0*1 0:0*1")


class NoKindTest(DeskCase):
    def test_what_is_no_measure(self):
        for word in NO_WORDS:
            for row in ["bend one {} 1", "rise one {}", "steps one {} 1", "judge one {} 0 0 0"]:
                self.assert_row_refused(NoKind, row.replace("{}", word))

    def test_it_goes_ahead_of_what_stands_behind(self):
        for row in ["bend one least x", "bend one least 9", "steps one least x", "steps one least 60", "judge one least 0",
                    "judge one least x x x", "judge one least 0 0 0 0"]:
            self.assert_row_refused(NoKind, row)

    def test_bends_by_sum(self):
        desk = a_desk()
        desk.say("bend one sum 0")
        desk.say("bend one sum 1")
        for bend in ("2", "3", "4", "-1", "60", "9" * 40, "-" + "9" * 40):
            self.assert_row_refused(NoKind, "bend one sum " + bend)
        # What is no number is seen ahead of the deed.
        for word in NO_NUMBERS:
            self.assert_row_refused(NoText, "bend one sum " + word)


class NoTextTest(DeskCase):
    def test_what_is_no_number(self):
        for word in NO_NUMBERS:
            for kind in ("far", "square"):
                self.assert_row_refused(NoText, "bend one " + kind + " " + word)
            for kind in KINDS:
                self.assert_row_refused(NoText, "steps one " + kind + " " + word)

    def test_what_is_no_mark(self):
        for word in ["", "0", "0:0", "0:0*0", "0:0*-1", "0:0*1/2", "0:0*007", "2/4:0*1", "0:0*1\n", "x"]:
            for row in ["marks new {}", "marks new 5:5*5 {}", "marks one {} 5:5*5", "marks one 5:5*5 5:5*5 {}"]:
                self.assert_row_refused(NoText, row.replace("{}", word))

    def test_what_is_no_fraction(self):
        for word in ["", "x", "2/4", "1/0", "1/1", "007", "-0", "+1", "0:0*1", "1" * 41, "1\t"]:
            for kind in KINDS:
                for row in ["judge one {} %s 0 0", "judge one {} 0 %s 0", "judge one {} 0 0 %s", "judge one {} %s x %s"]:
                    self.assert_row_refused(NoText, row.replace("{}", kind).replace("%s", word))
            self.assert_row_refused(NoText, "judge other far " + word)

    def test_another_count_of_fractions_goes_ahead(self):
        for row in ["judge one far 0", "judge one far 0 0", "judge one far 0 0 0 0", "judge one far x", "judge one sum x x",
                    "judge one square x x x x", "judge other far 0 0", "judge one far 0 0 0 2/4", "judge other far  "]:
            self.assert_row_refused(NoRow, row)


class DeedTest(DeskCase):
    def test_marks_at_one_place(self):
        for row in ["marks new 0:0*1 0:0*1", "marks one 1/2:0*1 3:0*1 1/2:7*2", "marks other 0:0*1 1:1*1 0:5*2"]:
            self.assert_row_refused(NoMarks, row)

    def test_bends_beyond_three(self):
        for kind in ("far", "square"):
            for bend in ("4", "5", "-1", "-3", "60", "9" * 40):
                self.assert_row_refused(NoBend, "bend one " + kind + " " + bend)

    def test_steps_below_nought_and_above_fifty_nine(self):
        desk = a_desk()
        for kind in KINDS:
            for k in ("-1", "60", "61", "-59", "9" * 40):
                self.assert_row_refused(NoNumber, "steps one " + kind + " " + k)
            desk.say("steps one " + kind + " 0")
            desk.say("steps one " + kind + " 59")

    def test_a_refused_row_leaves_the_marks_by_its_name(self):
        desk = a_desk()
        for row in ["marks one 0:0*1 x", "marks one 0:0*1 0:0*1", "marks one x", "marks fresh 0:0*1 0:0*1", "drop fresh"]:
            with self.assertRaises(ValueError):
                desk.say(row)
        self.assert_said(desk, "names", "one other")
        self.assert_said(desk, "show one", "0:0*1 1:4*3 2:1*1")
        self.assert_said(desk, "bend one far 0", f"2 | 2 | {written([(-1, 2), (1, 2), (0, 1)])}")
        self.assertEqual(desk.say("judge one sum 0 0 0"), "13")


if __name__ == "__main__":
    unittest.main()
