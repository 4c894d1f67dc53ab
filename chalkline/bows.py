"""Bows: the curve through five places, and where lines meet it again."""

from chalkline.changes import lowest
from chalkline.errors import NoBow, Same
from chalkline.floors import is_floor
from chalkline.places import dot, on_one, through
from chalkline.plans import walked

# The pegs are a, b, c, d, e and any other one of the line through a. By Pascal's rule this meets the bow again at the
# place f for which the crossings of fa and cd (the peg 6), of ab and de (7) and of bc and ef (8) lie on one line. No
# deed stumbles, whichever line through a it is: a is not on cd; 7 is neither on cd nor on bc, as it is neither d nor b;
# e is not on bc; and where the line is ae, the one through e and 8 touches the bow at e.
PLAN = [
    ("line", 0, 5), ("line", 2, 3), ("peg", 0, 1),
    ("line", 0, 1), ("line", 3, 4), ("peg", 2, 3),
    ("line", 6, 7), ("line", 1, 2), ("peg", 4, 5),
    ("line", 4, 8), ("peg", 0, 6),
]
LAST = 9


def bow_of(five):
    """The bow of five places of which no three lie on one line."""
    look_at_bent(five, 5)
    one = (through(five[0], five[1]), through(five[2], five[3]))
    other = (through(five[0], five[2]), through(five[1], five[3]))
    # Either pair of lines goes through the first four places, and so does any sum of both: this one through the fifth.
    part = dot(other[0], five[4]) * dot(other[1], five[4])
    less = dot(one[0], five[4]) * dot(one[1], five[4])
    sixes = (pair_as_bow(one), pair_as_bow(other))
    return lowest([part * number - less * like for number, like in zip(sixes[0], sixes[1])])


def look_at_bent(places, many):
    """Refuses what is no list of so many places of which no three lie on one line."""
    if not is_floor(places) or len(places) != many or has_three_on_one(places):
        raise NoBow("a bow needs a list of places of which no three lie on one line")


def has_three_on_one(places):
    """Whether three of some places lie on one line."""
    for k in range(len(places)):
        for j in range(k):
            for i in range(j):
                if on_one([places[i], places[j], places[k]]):
                    return True
    return False


def pair_as_bow(pair):
    """The six numbers, as those of a bow, of all places that are on one of two lines."""
    one = pair[0]
    other = pair[1]
    squares = [one[k] * other[k] for k in range(3)]
    mixed = [one[j] * other[k] + one[k] * other[j] for j, k in ((0, 1), (0, 2), (1, 2))]
    return squares + mixed


def on_bow(bow, place):
    """Whether a place is on a bow."""
    x = place[0]
    y = place[1]
    z = place[2]
    parts = (x * x, y * y, z * z, x * y, x * z, y * z)
    return sum([number * part for number, part in zip(bow, parts)]) == 0


def again(five, place):
    """Where the line through the first of five places and a sixth meets their bow again."""
    look_at_bent(five, 5)
    if place == five[0]:
        raise Same()
    return walked(five + [place], list(PLAN))[0][LAST]


def bow_plan():
    """A plan that draws on a floor of six pegs where the line through the first and the last meets the bow again."""
    return (list(PLAN), LAST)


def six(places):
    """The bow on which six places are, or where the line through the first and the last meets the others' bow again."""
    look_at_bent(places, 6)
    bow = bow_of(places[:5])
    if on_bow(bow, places[5]):
        return ("bow", bow)
    return ("off", again(places[:5], places[5]))
