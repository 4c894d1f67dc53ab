"""What several tests need: points 5 and 6 told once more, otherwise than in the program, and how a refusal is held."""

import copy
import itertools
import math
from fractions import Fraction

from chalkline.errors import ChalkError

BIG = 10 ** 59 + 7
BIGGEST = 10 ** 60 - 1
SQUARE = [(0, 0, 1), (1, 0, 1), (0, 1, 1), (1, 1, 1)]
# Things that are no texts and no lists, of many kinds, each one like its copy.
OTHER_THINGS = [
    None, True, False, 0, 1, -1, BIG, 1.5, 1j, Fraction(1, 2), b"", b"a", b"line 0 1", (), ("a",), ("line", 0, 1), {},
    {"a": 0}, {1}, frozenset(["a"]), range(3), int, str, len, Ellipsis, NotImplemented,
]


def has_form(three):
    if math.gcd(*three) != 1:
        return False
    return next(number for number in reversed(three) if number != 0) > 0


def in_form(three):
    lowest = tuple(number // math.gcd(*three) for number in three)
    return lowest if has_form(lowest) else tuple(-number for number in lowest)


def cross(one, other):
    a, b, c = one
    x, y, z = other
    return (b * z - c * y, c * x - a * z, a * y - b * x)


def volume(one, other, third):
    return sum(p * n for p, n in zip(one, cross(other, third)))


def small_places(most):
    return [three for three in itertools.product(range(-most, most + 1), repeat=3) if any(three) and has_form(three)]


def refused(case, error, made, *handed):
    """That made(*handed) is refused with this very class, twice alike, and what was handed in is as before."""
    before = copy.deepcopy(handed)
    for turn in range(2):
        with case.assertRaises(ChalkError) as told:
            made(*handed)
        case.assertIs(type(told.exception), error)
        case.assertIsInstance(told.exception, ValueError)
        case.assertEqual(handed, before)
