"""What several tests need: points told once more, otherwise than in the program, and how a refusal is held."""

import copy
import itertools
import math
import random
from fractions import Fraction

from chalkline.errors import ChalkError

BIG = 10 ** 59 + 7
BIGGEST = 10 ** 60 - 1
SQUARE = [(0, 0, 1), (1, 0, 1), (0, 1, 1), (1, 1, 1)]
STANDARD = [(1, 0, 0), (0, 1, 0), (0, 0, 1), (1, 1, 1)]
# Four places of numbers of sixty figures, no three on one line.
FAR_OFF = [(BIG, BIGGEST, 1), (-BIGGEST, BIG, BIG + 2), (1, -BIG, BIGGEST), (BIG, 1, 0)]
# Things that are no texts and no lists, of many kinds, each one like its copy.
OTHER_THINGS = [
    None, True, False, 0, 1, -1, BIG, 1.5, 1j, Fraction(1, 2), b"", b"a", b"line 0 1", (), ("a",), ("line", 0, 1), {},
    {"a": 0}, {1}, frozenset(["a"]), range(3), int, str, len, Ellipsis, NotImplemented,
]
# Pegs of one line, one off it, and things of any kind that are no floors.
ROW = [(0, 0, 1), (1, 0, 1), (2, 0, 1), (1, 0, 0), (-3, 0, 1), (1, 0, 2), (5, 0, 3), (-7, 0, 4), (9, 0, 1),
       (10, 0, 1), (11, 0, 1), (BIG, 0, 1)]
TIP = (3, 5, 2)
NO_LISTS = [
    None, True, False, 0, 1, 1.0, "", "abc", (), ((0, 0, 1),), ((0, 0, 1), (1, 0, 1)), {}, {(0, 0, 1): True},
    {(0, 0, 1)}, frozenset([(0, 0, 1)]), (0, 0, 1), object(), list, range(3), iter([(0, 0, 1)]), Fraction(1, 2),
]
NO_MEMBERS = [
    (0, 0, 0), (2, 0, 0), (0, 0, -1), (1, 1, -1), (True, 0, 0), (0, 0, True), (0, 1), (0, 0, 1, 1), [0, 0, 1], [], (),
    None, 1, True, "001", 1.0, (0, 0, 1.0), ("0", "0", "1"), {}, {1}, object(), ((0, 0, 1),), ([0], 0, 1),
]
NO_FLOORS = NO_LISTS + [[], ROW + [TIP], ROW + [(13, 0, 1)], ROW * 9, [TIP, TIP], SQUARE + [(0, 0, 1)], [SQUARE]] + [
    SQUARE[:at] + [member] + SQUARE[at:] for member in NO_MEMBERS for at in (0, 4)
]


def has_form(three):
    if math.gcd(*three) != 1:
        return False
    return next(number for number in reversed(three) if number != 0) > 0


def in_form(three):
    lowest = tuple(number // math.gcd(*three) for number in three)
    return lowest if has_form(lowest) else tuple(-number for number in lowest)


def cross(one, other):
    a, b, c = one
    x, y, z = other
    return (b * z - c * y, c * x - a * z, a * y - b * x)


def volume(one, other, third):
    return sum(p * n for p, n in zip(one, cross(other, third)))


def small_places(most):
    return [three for three in itertools.product(range(-most, most + 1), repeat=3) if any(three) and has_form(three)]


def det(nine):
    """The determinant by all six ways to take one number of each row and column."""
    told = 0
    for one, two, three in itertools.permutations(range(3)):
        sign = 1 if (one, two, three) in [(0, 1, 2), (1, 2, 0), (2, 0, 1)] else -1
        told += sign * nine[one] * nine[3 + two] * nine[6 + three]
    return told


def form(nine):
    """Nine numbers in the form of point 15."""
    part = math.gcd(*nine)
    if next(number for number in nine if number != 0) < 0:
        part = -part
    return tuple(number // part for number in nine)


def sums(nine, three):
    return tuple(sum(nine[3 * row + k] * three[k] for k in range(3)) for row in range(3))


def some_changes(many, most):
    """Changes of numbers up to most, the same ones at each run."""
    chance = random.Random(many)
    told = []
    while len(told) < many:
        nine = [chance.randint(-most, most) for number in range(9)]
        if det(nine) != 0:
            told.append(form(nine))
    return told


def is_frame(four):
    return all(volume(*three) != 0 for three in itertools.combinations(four, 3))


def some_frames(many):
    chance = random.Random(many)
    places = small_places(3)
    told = []
    while len(told) < many:
        four = chance.sample(places, 4)
        if is_frame(four):
            told.append(four)
    return told


def first_frame(floor):
    """The first frame of a floor, as point 7 tells it, or None."""
    fours = itertools.combinations(range(len(floor)), 4)
    return next((four for four in fours if is_frame([floor[k] for k in four])), None)


def weights(four, place):
    """How often each of the first three of four places is taken to sum up to a place, by Cramer's rule."""
    a, b, c = four[:3]
    return volume(place, b, c), volume(a, place, c), volume(a, b, place)


def at_frame(four, place):
    """The numbers of a place by four, as point 17 tells them: its weights by those of the fourth."""
    parts = [Fraction(one, other) for one, other in zip(weights(four, place), weights(four, four[3]))]
    whole = math.lcm(*[part.denominator for part in parts])
    return in_form(tuple(int(part * whole) for part in parts))


def from_frame(four, numbers):
    """The place that has these numbers by four places."""
    parts = [number * part for number, part in zip(numbers, weights(four, four[3]))]
    return in_form(tuple(sum(part * place[k] for part, place in zip(parts, four)) for k in range(3)))


def no_fours():
    """Things of any kind that are no list of four places of which no three lie on one line."""
    told = [[(0, 0, 1), (1, 2, 1), (2, 4, 1)] for at in range(4)]
    for at, four in enumerate(told):
        four.insert(at, (5, 1, 1))
    told += [[(1, 0, 0), (0, 1, 0), (1, 1, 0), (0, 0, 1)], [(0, 0, 1), (1, 0, 1), (2, 0, 1), (3, 0, 1)]]
    for one, other in itertools.permutations(range(4), 2):
        four = list(SQUARE)
        four[one] = four[other]
        told.append(four)
    told += [
        [(1, 1, 1)] * 4, [], SQUARE[:1], SQUARE[:2], SQUARE[:3], SQUARE + [(2, 3, 1)], SQUARE + [(1, 1, 1)],
        [(k, k * k, 1) for k in range(12)], [(k, k * k, 1) for k in range(13)],
    ]
    for thing in OTHER_THINGS + [
        [], [1, 1, 1], (0, 0, 0), (2, 2, 2), (-1, -1, -1), (1, 1, -1), (1, 1), (1, 1, 1, 1), (True, 1, 1), (1, 1, True),
        (1.0, 1, 1), ("1", "1", "1"), "111", (None, 1, 1), ((1, 1, 1),), ([1], 1, 1),
    ]:
        for at in range(4):
            four = list(SQUARE)
            four[at] = thing
            told.append(four)
    return told + OTHER_THINGS + [
        tuple(SQUARE), set(SQUARE), frozenset(SQUARE), dict.fromkeys(SQUARE), dict(enumerate(SQUARE)), "", "abcd", [SQUARE],
        [SQUARE] * 4, (1, 0, 0, 0, 1, 0, 0, 0, 1), (1, 1, 1),
    ]


def some_expression(chance, signs, leaves):
    """An expression of so many signs."""
    if signs == 0:
        return chance.choice(leaves)
    first = chance.randrange(signs)
    one, other = some_expression(chance, first, leaves), some_expression(chance, signs - 1 - first, leaves)
    return (chance.choice("+-*/"), one, other)


def worth(expression, values):
    """The value of an expression by Python's fractions, or None where it is divided by 0."""
    if expression[0] == "number":
        return Fraction(expression[1])
    if expression[0] == "name":
        return Fraction(*values[expression[1]])
    one, other = worth(expression[1], values), worth(expression[2], values)
    if one is None or other is None or expression[0] == "/" and other == 0:
        return None
    return {"+": one + other, "-": one - other, "*": one * other, "/": one / (other or 1)}[expression[0]]


def refused(case, error, made, *handed):
    """That made(*handed) is refused with this very class, twice alike, and what was handed in is as before."""
    before = copy.deepcopy(handed)
    for turn in range(2):
        with case.assertRaises(ChalkError) as told:
            made(*handed)
        case.assertIs(type(told.exception), error)
        case.assertIsInstance(told.exception, ValueError)
        case.assertEqual(handed, before)
