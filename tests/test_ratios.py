"""Point 24: the cross ratio of four places on one line."""

import itertools
import math
import random
import unittest
from fractions import Fraction

from chalkline.errors import NoRatio
from chalkline.ratios import ratio
from helper import (
    BIG, BIGGEST, FAR_OFF, NO_MEMBERS, OTHER_THINGS, ROW, SQUARE, TIP, cross, form, in_form, refused, small_places,
    some_changes, some_frames, sums, volume,
)

# How a ratio goes over into another where the four are taken in another order.
ORDERS = {
    (0, 1, 2, 3): lambda r: r, (1, 0, 3, 2): lambda r: r, (2, 3, 0, 1): lambda r: r, (3, 2, 1, 0): lambda r: r,
    (1, 0, 2, 3): lambda r: 1 / r, (0, 1, 3, 2): lambda r: 1 / r, (0, 2, 1, 3): lambda r: 1 - r,
    (2, 1, 0, 3): lambda r: r / (r - 1), (0, 2, 3, 1): lambda r: 1 / (1 - r), (0, 3, 1, 2): lambda r: 1 - 1 / r,
}


def on_line(one, other, times, more):
    """The place of so many times the one and so many times the other."""
    return in_form(tuple(times * p + more * q for p, q in zip(one, other)))


def by_numbers(a, b, c, d):
    """The ratio of four pairs of numbers on a line: [a c] [b d] to [a d] [b c]."""
    def both(p, q):
        return p[0] * q[1] - p[1] * q[0]
    top, bottom = both(a, c) * both(b, d), both(a, d) * both(b, c)
    return (1, 0) if bottom == 0 else (Fraction(top, bottom).numerator, Fraction(top, bottom).denominator)


def by_a_place(four, off):
    """The ratio by determinants with a place off the line."""
    a, b, c, d = four
    top, bottom = volume(a, c, off) * volume(b, d, off), volume(a, d, off) * volume(b, c, off)
    return (1, 0) if bottom == 0 else (Fraction(top, bottom).numerator, Fraction(top, bottom).denominator)


def rows(many):
    """Four places on a line, three at least unlike, on lines of any direction, the same ones at each run."""
    chance = random.Random(many)
    places = small_places(3)
    told = []
    while len(told) < many:
        one, other = chance.sample(places, 2)
        pairs = [chance.choice([(1, 0), (0, 1), (1, 1), (2, 1), (1, 2), (-1, 1), (-3, 1), (5, 7)]) for turn in range(4)]
        if len(set(pairs)) >= 3:
            told.append((pairs, [on_line(one, other, *pair) for pair in pairs]))
    return told


class Ratios(unittest.TestCase):
    def told(self, *four):
        told = ratio(*four)
        self.assertIs(type(told), tuple)
        self.assertEqual([type(number) for number in told], [int, int])
        self.assertEqual(math.gcd(*told), 1)
        self.assertTrue(told[1] > 0 or told == (1, 0))
        self.assertEqual(ratio(*four), told)
        return told

    def test_told_ones(self):
        # At 0, 1, 2, 3: (0 - 2) (1 - 3) to (0 - 3) (1 - 2).
        a, b, c, d = [(n, 0, 1) for n in range(4)]
        self.assertEqual(self.told(a, b, c, d), (4, 3))
        self.assertEqual(self.told(a, c, b, d), (-1, 3))
        self.assertEqual(self.told(b, a, c, d), (3, 4))
        # Two, the middle of them, and the far place: the harmonic four.
        self.assertEqual(self.told((0, 0, 1), (2, 4, 1), (1, 2, 1), (1, 2, 0)), (-1, 1))
        # By the far place, nought and one a number is the ratio itself.
        for top, bottom in [(5, 1), (-5, 1), (7, 3), (-7, 3), (2, 9), (BIG, 3)]:
            place = in_form((top, 0, bottom))
            self.assertEqual(self.told((1, 0, 0), (0, 0, 1), (1, 0, 1), place), (place[0], place[2]))
            upside = Fraction(bottom, top)
            self.assertEqual(self.told((1, 0, 0), (0, 0, 1), place, (1, 0, 1)), (upside.numerator, upside.denominator))

    def test_on_lines_of_any_direction(self):
        for pairs, four in rows(400):
            self.assertEqual(self.told(*four), by_numbers(*pairs))

    def test_by_any_place_off_the_line(self):
        for pairs, four in rows(60):
            line = cross(*sorted(set(four))[:2])
            for off in small_places(1):
                if sum(p * n for p, n in zip(off, line)) != 0:
                    self.assertEqual(self.told(*four), by_a_place(four, off))

    def test_lines_by_which_numbers_are_0(self):
        for one, other in [
            ((1, 0, 0), (0, 1, 0)), ((0, 1, 0), (0, 0, 1)), ((1, 0, 0), (0, 0, 1)), ((1, 0, 0), (0, 1, 1)), ((0, 1, 0), (1, 0, 1)),
            ((0, 0, 1), (1, 1, 0)), ((0, 0, 1), (-1, 1, 0)), ((1, 0, 1), (0, 1, 1)),
        ]:
            for pairs in [[(1, 0), (0, 1), (1, 1), (2, 1)], [(1, 0), (0, 1), (-1, 1), (3, 5)], [(1, 2), (3, 1), (5, 1), (1, 7)]]:
                self.assertEqual(self.told(*[on_line(one, other, *pair) for pair in pairs]), by_numbers(*pairs))

    def test_each_order(self):
        for pairs, four in rows(60):
            if len(set(four)) == 4:
                first = Fraction(*ratio(*four))
                for order, made in ORDERS.items():
                    right = made(first)
                    told = self.told(*[four[k] for k in order])
                    self.assertEqual(told, (right.numerator, right.denominator))
            for order in itertools.permutations(range(4)):
                self.assertEqual(self.told(*[four[k] for k in order]), by_numbers(*[pairs[k] for k in order]))

    def test_two_alike(self):
        for one, other, third in [
            ((0, 0, 1), (1, 0, 1), (2, 0, 1)), ((1, 0, 0), (0, 1, 0), (-1, 1, 0)), ((0, 0, 1), (3, 5, 2), (3, 5, 0)),
            (FAR_OFF[0], FAR_OFF[1], on_line(FAR_OFF[0], FAR_OFF[1], 3, -5)),
        ]:
            for p, q, r in itertools.permutations([one, other, third]):
                self.assertEqual(self.told(p, p, q, r), (1, 1))
                self.assertEqual(self.told(q, r, p, p), (1, 1))
                self.assertEqual(self.told(p, q, p, r), (0, 1))
                self.assertEqual(self.told(q, p, r, p), (0, 1))
                self.assertEqual(self.told(p, q, r, p), (1, 0))
                self.assertEqual(self.told(q, p, p, r), (1, 0))

    def test_changes_keep_it(self):
        for (pairs, four), change in zip(rows(120), some_changes(120, 9)):
            self.assertEqual(self.told(*[in_form(sums(change, place)) for place in four]), by_numbers(*pairs))

    def test_sixty_figures(self):
        one, other = FAR_OFF[:2]
        for pairs in [[(1, 0), (0, 1), (1, 1), (-7, 3)], [(1, 2), (3, 4), (-5, 6), (7, 8)]]:
            self.assertEqual(self.told(*[on_line(one, other, *pair) for pair in pairs]), by_numbers(*pairs))
        four = [(BIG, 0, 1), (BIGGEST, 0, 1), (1, 0, BIG), (-BIG, 0, BIGGEST)]
        self.assertEqual(self.told(*four), by_numbers(*[(place[0], place[2]) for place in four]))
        self.assertGreater(ratio(*four)[1], 10 ** 59)
        change = form((BIG, 1, 2, 0, 3, -BIG, 5, 7, 1))
        self.assertEqual(self.told(*[in_form(sums(change, place)) for place in four]), ratio(*four))


class NoRatios(unittest.TestCase):
    def test_three_alike_and_four_alike(self):
        for one, other in [((0, 0, 1), (1, 0, 1)), ((1, 0, 0), (0, 1, 0)), (TIP, (1, 0, 0)), (FAR_OFF[0], FAR_OFF[3])]:
            refused(self, NoRatio, ratio, one, one, one, one)
            for at in range(4):
                four = [one] * 4
                four[at] = other
                refused(self, NoRatio, ratio, *four)

    def test_two_and_two_alike(self):
        for one, other in [((0, 0, 1), (1, 0, 1)), ((1, 0, 0), (0, 1, 0)), (TIP, (1, 0, 0)), (FAR_OFF[0], FAR_OFF[3])]:
            for four in [(one, one, other, other), (one, other, one, other), (one, other, other, one)]:
                refused(self, NoRatio, ratio, *four)

    def test_not_on_one_line(self):
        for four in some_frames(20) + [SQUARE, FAR_OFF]:
            refused(self, NoRatio, ratio, *four)
        for three in [ROW[:3], ROW[2:5], [(1, 0, 0), (0, 0, 1), (BIG, 0, 1)]]:
            for at in range(4):
                four = list(three)
                four.insert(at, TIP)
                refused(self, NoRatio, ratio, *four)

    def test_three_unlike_ones_not_on_one_line(self):
        for three in [SQUARE[:3], FAR_OFF[:3]]:
            for order in itertools.permutations(three + three[:1]):
                refused(self, NoRatio, ratio, *order)

    def test_what_is_no_place(self):
        for thing in [member for member in NO_MEMBERS if type(member) is not object] + OTHER_THINGS:
            for at in range(4):
                four = ROW[:4]
                four[at] = thing
                with self.subTest(repr(four)):
                    refused(self, NoRatio, ratio, *four)


if __name__ == "__main__":
    unittest.main()
