"""Texts: plans and places written and read."""

from chalkline.errors import NoText
from chalkline.places import is_place

FIGURES = "0123456789"


def shown(plan):
    """The text that writes a plan."""
    return "; ".join([" ".join([deed[0], str(deed[1]), str(deed[2])]) for deed in plan])


def read(text):
    """The plan that a text writes."""
    rows = rows_of(text)
    if text == "":
        return []
    return [read_deed(words) for words in rows]


def rows_of(text):
    """The rows of a text, each as the list of its words; two blanks have a word without signs between them."""
    if not isinstance(text, str):
        raise NoText("only a text writes anything")
    return [row.split(" ") for row in text.split("; ")]


def read_deed(words):
    """The deed that a row's words write."""
    if len(words) != 3 or words[0] not in ("line", "peg"):
        raise NoText("a deed is written as line I J or peg K L")
    return (words[0], read_number(words[1]), read_number(words[2]))


def read_number(word):
    """The number that a word writes by figures, without a nought ahead but in 0 itself."""
    # Python's own reading lets signs, blanks and the figures of other scripts pass.
    if word == "" or not all([sign in FIGURES for sign in word]):
        raise NoText("a number is written by the figures 0 to 9")
    if word[0] == "0" and word != "0":
        raise NoText("a number has no nought ahead")
    return int(word)


def shown_place(place):
    """The text that writes a place."""
    return ",".join([str(number) for number in place])


def read_place(text):
    """The place that a text writes."""
    place = tuple([read_signed(word) for word in text.split(",")])
    if not is_place(place):
        raise NoText("a place is written as X,Y,Z in its form")
    return place


def read_signed(word):
    """The number that a word writes by figures, below 0 with a sign ahead."""
    if not word.startswith("-"):
        return read_number(word)
    number = read_number(word[1:])
    if number == 0:
        raise NoText("0 has no sign ahead")
    return -number
