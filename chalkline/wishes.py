"""Wishes: places by a frame, and plans that bring any place by the pegs of a frame."""

from chalkline.changes import is_four, led, spread, undoing
from chalkline.errors import NoFrame, TooMany
from chalkline.floors import frame_of
from chalkline.sketches import Sketch

STANDARD = [(1, 0, 0), (0, 1, 0), (0, 0, 1), (1, 1, 1)]


def by_frame(four, place):
    """The numbers of a place by four places of which no three lie on one line."""
    if not is_four(four):
        raise NoFrame("a list of four places, of which no three lie on one line, is needed")
    return led(undoing(spread(four)), place)


def plan_for(floor, wish):
    """A plan by the pegs of a floor's first frame whose last peg is the wish, and the number of that peg."""
    frame = frame_of(floor)
    if frame is None:
        raise NoFrame("a floor without a frame has no plan for each wish")
    numbers = by_frame([floor[peg] for peg in frame], wish)
    if any([abs(number) >= 10 ** 40 for number in numbers]):
        raise TooMany("a number of the wish by the frame has more than forty figures")
    for peg in frame:
        if floor[peg] == wish:
            return ([], peg)
    sketch = Sketch(frame, len(floor))
    number = draw(sketch, numbers)
    return (sketch.plan, number)


def draw(sketch, numbers):
    """Draws the place of three numbers, which is no peg of the frame, as a sketch's last peg, and tells its number."""
    x = sketch.whole(numbers[0])
    y = sketch.whole(numbers[1])
    if numbers[2] == 0:
        # Neither x nor y is 0 then, or the place would be a peg of the frame; so the spot is not the corner.
        return sketch.heading(sketch.corner, sketch.spot(x, y))
    z = sketch.whole(numbers[2])
    return sketch.spot(sketch.quotient(x, z), sketch.quotient(y, z))
