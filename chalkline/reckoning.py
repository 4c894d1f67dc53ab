"""Reckoning: plans that draw the value of an expression, whatever pegs stand for its names."""

from chalkline.errors import NoName
from chalkline.sketches import Sketch
from chalkline.sums import SIGNS, parts_of

FRAME = (0, 1, 2, 3)


def sum_plan(expression, names):
    """A plan that draws the value of an expression, and the number of the peg that stands at it."""
    pegs = dict([(name, number) for number, name in enumerate(names, start=len(FRAME))])
    sketch = Sketch(FRAME, len(FRAME) + len(names))
    done = []
    for part in parts_of(expression):
        if part[0] in SIGNS:
            other = done.pop()
            one = done.pop()
            done.append(drawn_by(part[0], sketch, one, other))
        elif part[0] == "number":
            done.append(sketch.whole(part[1]))
        elif part[1] in pegs:
            done.append(pegs[part[1]])
        else:
            raise NoName("a name of the expression is not among those of the pegs")
    return (sketch.plan, done[0])


def drawn_by(sign, sketch, one, other):
    """The peg that comes of two pegs by a sign."""
    if sign == "+":
        return sketch.added(one, other)
    if sign == "-":
        return sketch.less(one, other)
    if sign == "*":
        return sketch.product(one, other)
    return sketch.quotient(one, other)
