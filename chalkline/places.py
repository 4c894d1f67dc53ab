"""Places and lines: three whole numbers each, in the one form of point 5."""

from chalkline.errors import NoPlace, Same


def is_whole(thing):
    """Whether a thing is a whole number; a truth is none."""
    return isinstance(thing, int) and not isinstance(thing, bool)


def is_place(thing):
    """Whether a thing is a place (or a line) in its form."""
    if not isinstance(thing, tuple) or len(thing) != 3:
        return False
    if not makes_place(thing):
        return False
    return in_form(thing) == thing


def place_of(x, y, z):
    """The place (or the line) that three whole numbers make."""
    numbers = (x, y, z)
    if not makes_place(numbers):
        raise NoPlace("a place is made of three whole numbers that are not all 0")
    return in_form(numbers)


def makes_place(three):
    """Whether three things are whole numbers and not all 0."""
    return all([is_whole(thing) for thing in three]) and three != (0, 0, 0)


def in_form(numbers):
    """Three whole numbers, not all 0, by their greatest divisor, the last one that is not 0 above 0."""
    part = divisor(divisor(numbers[0], numbers[1]), numbers[2])
    last = [number for number in numbers if number != 0][-1]
    if last < 0:
        part = -part
    return (numbers[0] // part, numbers[1] // part, numbers[2] // part)


def divisor(one, other):
    """The greatest number that divides both; 0 where both are 0."""
    one = abs(one)
    other = abs(other)
    while other != 0:
        rest = one % other
        one = other
        other = rest
    return one


def lies(place, line):
    """Whether a place lies on a line."""
    return dot(place, line) == 0


def dot(one, other):
    """The sum of the products of like numbers of two threes."""
    return one[0] * other[0] + one[1] * other[1] + one[2] * other[2]


def cross(one, other):
    """Three numbers whose dot with either three is 0."""
    x = one[1] * other[2] - one[2] * other[1]
    y = one[2] * other[0] - one[0] * other[2]
    z = one[0] * other[1] - one[1] * other[0]
    return (x, y, z)


def through(one, other):
    """The line through two unlike places."""
    return between_two(one, other)


def crossing(one, other):
    """The place at which two unlike lines cross."""
    return between_two(one, other)


def between_two(one, other):
    """What lies on both: places and lines have one form, so one sum serves for both."""
    if one == other:
        raise Same()
    return in_form(cross(one, other))


def on_one(places):
    """Whether there is a line on which all places of a list lie."""
    others = [place for place in places if place != places[0]]
    if len(others) == 0:
        return True
    line = through(places[0], others[0])
    return all([lies(place, line) for place in others])
