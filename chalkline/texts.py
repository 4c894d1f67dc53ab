"""Texts: plans written and read."""

from chalkline.errors import NoText

FIGURES = "0123456789"


def shown(plan):
    """The text that writes a plan."""
    return "; ".join([" ".join([deed[0], str(deed[1]), str(deed[2])]) for deed in plan])


def read(text):
    """The plan that a text writes."""
    rows = rows_of(text)
    if text == "":
        return []
    return [read_deed(words) for words in rows]


def rows_of(text):
    """The rows of a text, each as the list of its words; two blanks have a word without signs between them."""
    if not isinstance(text, str):
        raise NoText("only a text writes anything")
    return [row.split(" ") for row in text.split("; ")]


def read_deed(words):
    """The deed that a row's words write."""
    if len(words) != 3 or words[0] not in ("line", "peg"):
        raise NoText("a deed is written as line I J or peg K L")
    return (words[0], read_number(words[1]), read_number(words[2]))


def read_number(word):
    """The number that a word writes by figures, without a nought ahead but in 0 itself."""
    # Python's own reading lets signs, blanks and the figures of other scripts pass.
    if word == "" or not all([sign in FIGURES for sign in word]):
        raise NoText("a number is written by the figures 0 to 9")
    if word[0] == "0" and word != "0":
        raise NoText("a number has no nought ahead")
    return int(word)
