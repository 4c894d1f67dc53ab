"""Floors: what a list of pegs is, and what can come of it."""

from chalkline.errors import Endless, NoFloor
from chalkline.places import is_place, lies, on_one, through

MOST_PEGS = 12


def is_floor(thing):
    """Whether a thing is a list of one to twelve unlike places."""
    if not isinstance(thing, list) or not 1 <= len(thing) <= MOST_PEGS:
        return False
    if not all([is_place(member) for member in thing]):
        return False
    return len(set(thing)) == len(thing)


def look_at(floor):
    """Refuses what is no floor."""
    if not is_floor(floor):
        raise NoFloor("a floor is a list of one to twelve unlike places")


def frame_of(floor):
    """The first four rising numbers of pegs of which no three lie on one line, or None."""
    look_at(floor)
    for a in range(len(floor)):
        for b in range(a + 1, len(floor)):
            side = through(floor[a], floor[b])
            for c in range(b + 1, len(floor)):
                if not lies(floor[c], side):
                    d = fourth_of(floor, a, b, c)
                    if d is not None:
                        return (a, b, c, d)
    return None


def fourth_of(floor, a, b, c):
    """The least number above c of a peg that lies on no line through two of the pegs a, b and c, or None."""
    sides = [through(floor[a], floor[b]), through(floor[b], floor[c]), through(floor[a], floor[c])]
    for d in range(c + 1, len(floor)):
        if not any([lies(floor[d], side) for side in sides]):
            return d
    return None


def kind_of(floor):
    """("frame", frame), ("line",) or ("fan", k)."""
    frame = frame_of(floor)
    if frame is not None:
        return ("frame", frame)
    if on_one(floor):
        return ("line",)
    return ("fan", odd_peg(floor))


def odd_peg(floor):
    """The least number of a peg of a fan such that all other pegs lie on one line."""
    return min([k for k in range(len(floor)) if on_one(floor[:k] + floor[k + 1:])])


def comes(floor):
    """All places and all lines that ever come of a floor without a frame."""
    if frame_of(floor) is not None:
        raise Endless("of a floor with a frame places come without end")
    # Without a frame all pegs but one at most lie on one line, so the lines
    # through two pegs cross at pegs alone: no other place ever comes.
    lines = []
    for j in range(len(floor)):
        for i in range(j):
            lines.append(through(floor[i], floor[j]))
    return (sorted(floor), sorted(set(lines)))
