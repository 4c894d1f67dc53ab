"""Pictures: two floors held against one another."""

from chalkline.changes import between, led
from chalkline.errors import NoFrame, Unlike
from chalkline.floors import frame_of, look_at
from chalkline.places import on_one
from chalkline.wishes import plan_for


def held(one, other):
    """The change that leads a floor into another, or what tells them apart: three pegs on one line, or a plan."""
    look_at(one)
    look_at(other)
    if len(one) != len(other):
        raise Unlike("the floors have not as many pegs")
    frame = frame_of(one)
    if frame is None and frame_of(other) is None:
        raise NoFrame("neither floor has a frame")
    three = odd_three(one, other)
    if three is not None:
        return ("line",) + three
    # The same pegs lie on one line on both floors now, so the frame is a frame on both.
    change = between([one[k] for k in frame], [other[k] for k in frame])
    astray = [k for k in range(len(one)) if led(change, one[k]) != other[k]]
    if len(astray) == 0:
        return ("change", change)
    return ("plan", plan_for(one, one[astray[0]])[0], astray[0])


def odd_three(one, other):
    """The first three rising numbers of pegs that lie on one line on just one of two floors, or None."""
    for i in range(len(one)):
        for j in range(i + 1, len(one)):
            for k in range(j + 1, len(one)):
                if on_one([one[i], one[j], one[k]]) != on_one([other[i], other[j], other[k]]):
                    return (i, j, k)
    return None
