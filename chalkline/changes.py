"""Changes: nine whole numbers, three rows of three, that lead places to places and lines to lines."""

from chalkline.errors import NoChange, NoFrame
from chalkline.floors import frame_of, is_floor
from chalkline.places import cross, divisor, dot, is_whole, place_of


def is_change(thing):
    """Whether a thing is a change in its form."""
    return isinstance(thing, tuple) and makes_change(thing) and lowest(thing) == thing


def change_of(numbers):
    """The change that nine whole numbers make."""
    if not isinstance(numbers, (list, tuple)) or not makes_change(numbers):
        raise NoChange("a change is made of nine whole numbers, a list or tuple, whose determinant is not 0")
    return lowest(numbers)


def makes_change(things):
    """Whether the things of a list or tuple are nine whole numbers whose determinant is not 0."""
    if len(things) != 9 or not all([is_whole(thing) for thing in things]):
        return False
    rows = three_rows(things)
    return determinant(rows[0], rows[1], rows[2]) != 0


def lowest(numbers):
    """Whole numbers, not all 0, by their greatest divisor, the first one that is not 0 above 0."""
    part = 0
    for number in numbers:
        part = divisor(part, number)
    if [number for number in numbers if number != 0][0] < 0:
        part = -part
    return tuple([number // part for number in numbers])


def three_rows(numbers):
    """Nine numbers as three rows of three."""
    return [numbers[start:start + 3] for start in (0, 3, 6)]


def columns_of(rows):
    """Three rows of three turned about, so that each column is a row."""
    return [(rows[0][k], rows[1][k], rows[2][k]) for k in range(3)]


def determinant(one, other, third):
    """The determinant of three rows, or three columns."""
    return dot(one, cross(other, third))


def cofactors(rows):
    """Three rows by which a line goes where the places go that the given rows lead."""
    return [cross(rows[1], rows[2]), cross(rows[2], rows[0]), cross(rows[0], rows[1])]


def led_by(rows, three):
    """The place, or line, made of the sums of each row's numbers times three numbers."""
    return place_of(dot(rows[0], three), dot(rows[1], three), dot(rows[2], three))


def led(change, place):
    """The place to which a change leads a place."""
    return led_by(three_rows(change), place)


def led_line(change, line):
    """The line to which a change leads a line."""
    return led_by(cofactors(three_rows(change)), line)


def both(first, second):
    """The change that leads as two changes do, the first one first."""
    columns = columns_of(three_rows(first))
    numbers = []
    for row in three_rows(second):
        numbers.extend([dot(row, column) for column in columns])
    return lowest(numbers)


def undoing(change):
    """The change that leads all back."""
    rows = columns_of(cofactors(three_rows(change)))
    return lowest(rows[0] + rows[1] + rows[2])


def between(four, other):
    """The one change that leads four places to four others, each to its like."""
    if not is_four(four) or not is_four(other):
        raise NoFrame("a list of four places, of which no three lie on one line, is needed on either side")
    return both(undoing(spread(four)), spread(other))


def is_four(thing):
    """Whether a thing is a list of four places of which no three lie on one line."""
    return is_floor(thing) and len(thing) == 4 and frame_of(thing) is not None


def spread(four):
    """The change that leads (1, 0, 0), (0, 1, 0), (0, 0, 1) and (1, 1, 1) to four places."""
    a = four[0]
    b = four[1]
    c = four[2]
    d = four[3]
    # The columns are so many times the first three places that their sum is a number times the fourth.
    parts = (determinant(d, b, c), determinant(a, d, c), determinant(a, b, d))
    numbers = []
    for k in range(3):
        numbers.extend([parts[0] * a[k], parts[1] * b[k], parts[2] * c[k]])
    return lowest(numbers)
