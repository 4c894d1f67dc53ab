"""Ratios: the cross ratio of four places on one line."""

from chalkline.errors import NoRatio
from chalkline.places import cross, is_place, on_one, through
from chalkline.sums import fraction


def ratio(a, b, c, d):
    """The cross ratio of four places on one line, of which three at least are unlike."""
    four = [a, b, c, d]
    if not has_ratio(four):
        raise NoRatio("a ratio is of four places on one line, of which three at least are unlike")
    unlike = sorted(set(four))
    at = index_off(through(unlike[0], unlike[1]))
    top = cross(a, c)[at] * cross(b, d)[at]
    bottom = cross(a, d)[at] * cross(b, c)[at]
    if bottom == 0:
        return (1, 0)
    return fraction(top, bottom)


def has_ratio(four):
    """Whether four things are places on one line, of which three at least are unlike."""
    return all([is_place(thing) for thing in four]) and len(set(four)) >= 3 and on_one(four)


def index_off(line):
    """The least index at which a line's number is not 0.

    The place that has 1 there and 0 else is off the line, and with it the determinant of two places is the number
    that their cross has there.
    """
    return min([at for at in range(3) if line[at] != 0])
