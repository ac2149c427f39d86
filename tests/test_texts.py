import unittest
from fractions import Fraction

from leastmiss.errors import NoText
from leastmiss.texts import read_fraction, read_mark, read_marks, show_fraction, show_mark, show_marks
from tests.drawn import Case, chance_of, told

FORTY = "1234567890" * 4
NO_TEXTS = [None, 0, 1, -3, True, False, [], ["1"], [(1, 1)], (), (1, 2), ("1",), {}, {"1": 1}, b"1", 1.5]
WHOLE = ["0", "1", "9", "10", "-1", "-9", "-10", "100", FORTY, "-" + FORTY, "9" * 40, "-" + "9" * 40]
NO_WHOLE = [
    "", "-", "--1", "+1", "+0", "-0", "00", "-00", "007", "-007", "01", "0" * 40, FORTY + "1", "-" + FORTY + "1", "1" * 41,
    " 1", "1 ", "1 2", "\t1", "1\t", "1\n", "\n1", "1_0", "1,0", "1.0", "1.", ".5", "1e3", "0x1", "a", "one", "- 1", "1-",
    "1-2", "-1-", "\u0661", "1\u0662", "\u00b2", "\uff11", "\u0967", "\u2460",
]
FRACTIONS = {
    "1/2": (1, 2),
    "-1/2": (-1, 2),
    "7/3": (7, 3),
    "-10/7": (-10, 7),
    "1/" + "9" * 40: (1, 10 ** 40 - 1),
    "9" * 40 + "/2": (10 ** 40 - 1, 2),
    "-" + FORTY + "/7": (-int(FORTY), 7),
}
NO_FRACTIONS = [
    "1/0", "0/0", "1/1", "0/1", "-1/1", "5/1", "0/2", "0/7", "2/4", "-2/4", "6/3", "4/2", "10/15", "1/-2", "-1/-2", "1/+2",
    "+1/2", "-0/2", "1/02", "01/2", "1/", "/2", "/", "-/2", "1//2", "1/2/3", "1/2/", "/1/2", " 1/2", "1/2 ", "1 /2", "1/ 2",
    "1/2\n", "1/\t2", "1:2", "1\\2", "1/" + "1" * 41, "1" * 41 + "/2", "1/\u0662", "\u0661/2", "1/2*3", "1/00", "1/-0",
]
MARKS = {
    "0:0*1": ((0, 1), (0, 1), 1),
    "-1/2:7/3*4": ((-1, 2), (7, 3), 4),
    "3:-5*10": ((3, 1), (-5, 1), 10),
    "1/2:-1/3*" + FORTY: ((1, 2), (-1, 3), int(FORTY)),
    FORTY + ":-" + FORTY + "/7*1": ((int(FORTY), 1), (-int(FORTY), 7), 1),
}
NO_MARKS = [
    "", "0", "0:0", "0*1", ":*", "0:*1", ":0*1", "0:0*", ":0*", "0:0*0", "0:0*-1", "0:0*1/2", "0:0*2/1", "0:0*007", "0:0*01",
    "0:0*+1", "0:0*-0", "0:0*00", "0:0*" + "1" * 41, "0*0:1", "0*1:0", "0:0:1", "0*0*1", "0:0*1*1", "0:0:0*1", "0::0*1",
    "0:0**1", " 0:0*1", "0:0*1 ", "0 :0*1", "0: 0*1", "0:0 *1", "0:0* 1", "0:0*1\n", "\t0:0*1", "2/4:0*1", "0:2/4*1",
    "0:1/1*1", "007:0*1", "0:007*1", "-0:0*1", "0:-0*1", "a:0*1", "0:b*1", "0:0*c", "0:0*\u0661", "\u0661:0*1", "0/1:0*1",
    "0,0,1", "0:0*1 1:0*1", "0:0x1", "0:0*1:", "(0:0*1)",
]


def marks_text(count):
    return " ".join([f"{spot}:{spot}/7*{spot + 1}" for spot in range(1, 7 * count) if spot % 7][:count])


class ReadFractionTest(Case):
    def test_whole_numbers(self):
        for text in WHOLE:
            self.assert_fraction(read_fraction(text), int(text))

    def test_what_is_no_whole_number(self):
        for text in NO_WHOLE:
            with self.subTest(text=text):
                self.assert_refused(NoText, read_fraction, text)

    def test_fractions(self):
        for text, wanted in FRACTIONS.items():
            self.assert_fraction(read_fraction(text), Fraction(*wanted))

    def test_what_is_no_fraction(self):
        for text in NO_FRACTIONS:
            with self.subTest(text=text):
                self.assert_refused(NoText, read_fraction, text)
        for text in NO_WHOLE:
            with self.subTest(text=text):
                self.assert_refused(NoText, read_fraction, text + "/2")
                self.assert_refused(NoText, read_fraction, "1/" + text)

    def test_every_small_top_and_bottom(self):
        for top in range(-12, 13):
            for bottom in range(-3, 13):
                text = f"{top}/{bottom}"
                if bottom > 1 and Fraction(top, bottom).denominator == bottom:
                    self.assertEqual(read_fraction(text), (top, bottom))
                else:
                    self.assert_refused(NoText, read_fraction, text)

    def test_what_is_no_text(self):
        for text in NO_TEXTS:
            with self.subTest(text=text):
                self.assert_refused(NoText, read_fraction, text)


class ReadMarkTest(Case):
    def test_marks(self):
        for text, wanted in MARKS.items():
            got = read_mark(text)
            self.assertIs(type(got), tuple)
            self.assertIs(type(got[2]), int)
            self.assertEqual(got, wanted)

    def test_what_is_no_mark(self):
        for text in NO_MARKS:
            with self.subTest(text=text):
                self.assert_refused(NoText, read_mark, text)
        for text in NO_FRACTIONS + NO_WHOLE:
            with self.subTest(text=text):
                self.assert_refused(NoText, read_mark, text + ":0*1")
                self.assert_refused(NoText, read_mark, "0:" + text + "*1")
                self.assert_refused(NoText, read_mark, "0:0*" + text)

    def test_what_is_no_text(self):
        for text in NO_TEXTS:
            with self.subTest(text=text):
                self.assert_refused(NoText, read_mark, text)


class ReadMarksTest(Case):
    def test_in_the_order_of_the_text(self):
        self.assertEqual(read_marks("3:1*1 -2:5*1 0:0*2"), [
            ((3, 1), (1, 1), 1), ((-2, 1), (5, 1), 1), ((0, 1), (0, 1), 2),
        ])
        # Marks that could not stand together are read all the same.
        self.assertEqual(read_marks("1:1*1 1:1*1"), [((1, 1), (1, 1), 1)] * 2)
        self.assertEqual(read_marks("1:1*1"), [((1, 1), (1, 1), 1)])

    def test_one_to_sixty(self):
        for count in (1, 2, 59, 60):
            got = read_marks(marks_text(count))
            self.assertIs(type(got), list)
            self.assertEqual(got, [read_mark(word) for word in marks_text(count).split(" ")])
            self.assertEqual(len(got), count)
        for count in (61, 62, 100):
            self.assert_refused(NoText, read_marks, marks_text(count))

    def test_blanks_and_other_signs_between(self):
        for text in [
            "", " ", "  ", " 0:0*1", "0:0*1 ", "0:0*1  1:0*1", " 0:0*1 1:0*1", "0:0*1 1:0*1 ", "0:0*1\t1:0*1", "0:0*1\n1:0*1",
            "0:0*1 \n1:0*1", "0:0*1,1:0*1", "0:0*1 1:0*1\n", "\t0:0*1", "0:0*11:0*1", "0:0*1;1:0*1",
        ]:
            with self.subTest(text=text):
                self.assert_refused(NoText, read_marks, text)

    def test_one_wrong_mark_among_others(self):
        for text in NO_MARKS[:30]:
            with self.subTest(text=text):
                self.assert_refused(NoText, read_marks, "5:5*5 " + text)
                self.assert_refused(NoText, read_marks, text + " 5:5*5")

    def test_what_is_no_text(self):
        for text in NO_TEXTS:
            with self.subTest(text=text):
                self.assert_refused(NoText, read_marks, text)

    def test_a_new_list_each_time(self):
        first = read_marks("0:0*1 1:0*1")
        first.clear()
        self.assertEqual(read_marks("0:0*1 1:0*1"), [((0, 1), (0, 1), 1), ((1, 1), (0, 1), 1)])


class ShowTest(Case):
    def test_fractions(self):
        for text in WHOLE:
            self.assertEqual(show_fraction((int(text), 1)), text)
        for text, one in FRACTIONS.items():
            self.assertEqual(show_fraction(one), text)

    def test_as_many_figures_as_needed(self):
        for figures in (41, 100, 1000, 4000):
            top = "-" + "7" * figures
            self.assertEqual(show_fraction((int(top), 1)), top)
            bottom = "1" + "0" * (figures - 1)
            self.assertEqual(show_fraction((int(top), int(bottom))), top + "/" + bottom)

    def test_marks(self):
        for text, mark in MARKS.items():
            self.assertEqual(show_mark(mark), text)
            self.assertEqual(show_marks([mark]), text)
        self.assertEqual(show_marks(list(MARKS.values())), " ".join(MARKS))

    def test_what_is_shown_is_read_and_what_is_read_is_shown(self):
        chance = chance_of(241)
        for turn in range(200):
            most = [3, 10 ** 6, 10 ** 40 - 1][turn % 3]
            marks = [
                (
                    told(Fraction(chance.randint(-most, most), chance.randint(1, most))),
                    told(Fraction(chance.randint(-most, most), chance.randint(1, most))),
                    chance.randint(1, most),
                )
                for spot in range(chance.randint(1, 60))
            ]
            kept = list(marks)
            text = show_marks(marks)
            self.assertIs(type(text), str)
            self.assertEqual(marks, kept)
            self.assertEqual(read_marks(text), marks)
            self.assertEqual(show_marks(read_marks(text)), text)
            self.assertEqual(read_mark(show_mark(marks[0])), marks[0])
            self.assertEqual(read_fraction(show_fraction(marks[0][1])), marks[0][1])
        for text in WHOLE + list(FRACTIONS):
            self.assertEqual(show_fraction(read_fraction(text)), text)
        self.assertEqual(show_marks(read_marks(marks_text(60))), marks_text(60))


if __name__ == "__main__":
    unittest.main()
