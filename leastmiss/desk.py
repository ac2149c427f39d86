"""The desk: marks kept by names, told and asked by rows of words."""

from leastmiss.balance import level_sum, line_sum
from leastmiss.bending import bend_least
from leastmiss.bents import row_of
from leastmiss.errors import NoKind, NoName, NoRow
from leastmiss.marks import marks_of
from leastmiss.measures import check_kind, measured
from leastmiss.rising import rise_least
from leastmiss.steps import step_least
from leastmiss.texts import read_fraction, read_mark, read_whole, show_fraction, show_fractions, show_marks

LETTERS = "abcdefghijklmnopqrstuvwxyz"
MOST_LETTERS = 8
# How many words a row has at least and at most, by its first one.
COUNTS = {
    "marks": (3, 62),
    "drop": (2, 2),
    "names": (1, 1),
    "show": (2, 2),
    "bend": (4, 4),
    "rise": (3, 3),
    "steps": (4, 4),
    "judge": (4, 63),
}


def words_of(row):
    if not isinstance(row, str):
        raise NoRow("a row is a text")
    words = row.split(" ")
    if words[0] not in COUNTS:
        raise NoRow("no row begins so")
    bounds = COUNTS[words[0]]
    if len(words) < bounds[0] or len(words) > bounds[1]:
        raise NoRow("this row has another count of words")
    return words


def check_name(word):
    if len(word) == 0 or len(word) > MOST_LETTERS or not all([sign in LETTERS for sign in word]):
        raise NoName("a name is one to eight small letters")


def bent_fit(kind, marks, bend):
    if kind != "sum":
        return bend_least(kind, marks, bend)
    if bend == 0:
        return level_sum(marks)
    if bend == 1:
        return line_sum(marks)
    raise NoKind("by sum there are levels and lines alone")


def parted(parts):
    return " | ".join([show_fractions(some) for some in parts])


def bend_answer(kind, marks, bend):
    fit = bent_fit(kind, marks, bend)
    measure = measured(kind, marks, row_of(fit[0], marks))
    return parted([[measure], fit[0], fit[1]])


def rise_answer(kind, marks):
    fit = rise_least(kind, marks)
    return parted([[measured(kind, marks, fit[0])], fit[0], fit[1]])


def steps_answer(kind, marks, k):
    row = step_least(kind, marks, k)[0]
    return parted([[measured(kind, marks, row)], row])


def judge_answer(kind, marks, words):
    if len(words) != len(marks):
        raise NoRow("there are not as many fractions as marks")
    return show_fraction(measured(kind, marks, [read_fraction(word) for word in words]))


def asked(words, marks):
    kind = words[2]
    check_kind(kind)
    if words[0] == "bend":
        return bend_answer(kind, marks, read_whole(words[3]))
    if words[0] == "rise":
        return rise_answer(kind, marks)
    if words[0] == "steps":
        return steps_answer(kind, marks, read_whole(words[3]))
    return judge_answer(kind, marks, words[3:])


class Desk:
    def __init__(self):
        self.kept = {}

    def say(self, row):
        words = words_of(row)
        if words[0] == "names":
            return " ".join(sorted(self.kept))
        if words[0] == "marks":
            return self.lay(words[1], words[2:])
        marks = self.marks_by(words[1])
        if words[0] == "drop":
            self.kept.pop(words[1])
            return "ok"
        if words[0] == "show":
            return show_marks(marks)
        return asked(words, marks)

    def lay(self, name, words):
        check_name(name)
        self.kept[name] = marks_of([read_mark(word) for word in words])
        return "ok"

    def marks_by(self, name):
        # Nothing is kept by what is no name.
        if name not in self.kept:
            raise NoName("no marks stand by this name")
        return self.kept[name]
