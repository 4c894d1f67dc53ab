"""Sums: expressions read, and their values."""

from chalkline.drawings import is_word
from chalkline.errors import NoText, NoValue
from chalkline.places import divisor
from chalkline.texts import read_number

SIGNS = ("+", "-", "*", "/")
# How close each sign binds; an open bracket lets nothing behind it join what stands ahead of it.
BINDS = {"(": 0, "+": 1, "-": 1, "*": 2, "/": 2}
MOST_SIGNS = 60
MOST_DEEP = 8
MOST_FIGURES = 9


def read_sum(text):
    """The expression that a text writes."""
    if not isinstance(text, str):
        raise NoText("only a text writes an expression")
    # Blanks stand round signs alone, so the words are by turns a side with its brackets and a sign.
    words = text.split(" ")
    if len(words) % 2 == 0 or len(words) // 2 > MOST_SIGNS:
        raise NoText("an expression has a side ahead of and behind each sign, and at most sixty signs")
    sides = []
    signs = []
    for at, word in enumerate(words):
        if at % 2 == 0:
            read_side(word, sides, signs)
        else:
            read_sign(word, sides, signs)
    join_sides(sides, signs, 1)
    if len(signs) > 0:
        raise NoText("a bracket is not shut")
    return sides[0]


def read_side(word, sides, signs):
    """Reads a name or a number with the brackets that open ahead of it and shut behind it."""
    bare = word.lstrip("(")
    signs.extend(["("] * (len(word) - len(bare)))
    if signs.count("(") > MOST_DEEP:
        raise NoText("brackets stand at most eight deep")
    core = bare.rstrip(")")
    sides.append(read_core(core))
    for turn in range(len(bare) - len(core)):
        join_sides(sides, signs, 1)
        if len(signs) == 0:
            raise NoText("a bracket is shut that was not opened")
        signs.pop()


def read_core(word):
    """The name or the number that a word writes."""
    if is_word(word):
        return ("name", word)
    if len(word) > MOST_FIGURES:
        raise NoText("a name has at most eight letters, a number at most nine figures")
    return ("number", read_number(word))


def read_sign(word, sides, signs):
    """Reads a sign, ahead of which all is joined that binds as close as it does."""
    if word not in SIGNS:
        raise NoText("a sign is one of + - * /")
    join_sides(sides, signs, BINDS[word])
    signs.append(word)


def join_sides(sides, signs, least):
    """Joins the last two sides by the last sign, again and again while that binds as close as told."""
    while len(signs) > 0 and BINDS[signs[-1]] >= least:
        other = sides.pop()
        one = sides.pop()
        sides.append((signs.pop(), one, other))


def parts_of(expression):
    """All parts of an expression, each behind its own two sides, so the expression itself last."""
    # Gathered from behind, each part ahead of its sides, and then turned about; so no depth of calls is needed.
    parts = []
    waiting = [expression]
    while len(waiting) > 0:
        part = waiting.pop()
        parts.append(part)
        if part[0] in SIGNS:
            waiting.extend(part[1:])
    parts.reverse()
    return parts


def value(expression, values):
    """The fraction that an expression has as its value where its names have these values."""
    done = []
    for part in parts_of(expression):
        if part[0] in SIGNS:
            other = done.pop()
            one = done.pop()
            done.append(reckoned(part[0], one, other))
        elif part[0] == "number":
            done.append((part[1], 1))
        elif part[1] in values:
            done.append(values[part[1]])
        else:
            raise NoValue("a name has no value")
    return done[0]


def reckoned(sign, one, other):
    """What comes of two fractions by a sign."""
    if sign == "+":
        return fraction(one[0] * other[1] + other[0] * one[1], one[1] * other[1])
    if sign == "-":
        return fraction(one[0] * other[1] - other[0] * one[1], one[1] * other[1])
    if sign == "*":
        return fraction(one[0] * other[0], one[1] * other[1])
    if other[0] == 0:
        raise NoValue("it is divided by 0")
    return fraction(one[0] * other[1], one[1] * other[0])


def fraction(top, bottom):
    """A top and a bottom, which is not 0, in lowest terms, the bottom from 1 on."""
    part = divisor(top, bottom)
    if bottom < 0:
        part = -part
    return (top // part, bottom // part)
