"""Whole numbers, fractions and marks as texts: how they are read and how they are written."""

from leastmiss.errors import NoText
from leastmiss.fractions import fraction
from leastmiss.marks import MOST_MARKS

FIGURES = "0123456789"
MOST_FIGURES = 40


def check_text(text):
    if not isinstance(text, str):
        raise NoText("what is no text is not read")


def is_figures(text):
    if len(text) == 0 or len(text) > MOST_FIGURES:
        return False
    if text[0] == "0" and len(text) > 1:
        return False
    return all([sign in FIGURES for sign in text])


def read_whole(text):
    figures = text[1:] if text[:1] == "-" else text
    if text == "-0" or not is_figures(figures):
        raise NoText("this is no whole number")
    return int(text)


def read_fraction(text):
    check_text(text)
    if "/" not in text:
        return (read_whole(text), 1)
    parts = text.partition("/")
    top = read_whole(parts[0])
    bottom = read_whole(parts[2])
    # What could be written with less is not written so, nor is a bottom of 1.
    if bottom < 2 or fraction(top, bottom) != (top, bottom):
        raise NoText("this is no fraction in lowest terms")
    return (top, bottom)


def read_mark(text):
    check_text(text)
    parts = text.partition(":")
    others = parts[2].partition("*")
    place = read_fraction(parts[0])
    height = read_fraction(others[0])
    weight = read_whole(others[2])
    if weight < 1:
        raise NoText("a weight is a number from 1 on")
    return (place, height, weight)


def read_marks(text):
    check_text(text)
    words = text.split(" ")
    if len(words) > MOST_MARKS:
        raise NoText("there are more than sixty marks")
    return [read_mark(word) for word in words]


def show_fraction(x):
    if x[1] == 1:
        return str(x[0])
    return str(x[0]) + "/" + str(x[1])


def show_fractions(some):
    return " ".join([show_fraction(x) for x in some])


def show_mark(mark):
    return show_fraction(mark[0]) + ":" + show_fraction(mark[1]) + "*" + str(mark[2])


def show_marks(some):
    return " ".join([show_mark(mark) for mark in some])
