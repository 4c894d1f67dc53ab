"""What several tests need: points 5 and 6 told once more, otherwise than in the program."""

import itertools
import math

BIG = 10 ** 59 + 7
BIGGEST = 10 ** 60 - 1
SQUARE = [(0, 0, 1), (1, 0, 1), (0, 1, 1), (1, 1, 1)]


def has_form(three):
    if math.gcd(*three) != 1:
        return False
    return next(number for number in reversed(three) if number != 0) > 0


def in_form(three):
    lowest = tuple(number // math.gcd(*three) for number in three)
    return lowest if has_form(lowest) else tuple(-number for number in lowest)


def cross(one, other):
    a, b, c = one
    x, y, z = other
    return (b * z - c * y, c * x - a * z, a * y - b * x)


def volume(one, other, third):
    return sum(p * n for p, n in zip(one, cross(other, third)))


def small_places(most):
    return [three for three in itertools.product(range(-most, most + 1), repeat=3) if any(three) and has_form(three)]
