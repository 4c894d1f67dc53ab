"""Points 25 and 26: bows through five places, and where lines meet them again."""

import copy
import itertools
import math
import random
import unittest
from fractions import Fraction

from chalkline.bows import again, bow_of, bow_plan, on_bow, six
from chalkline.errors import NoBow, Same
from chalkline.plans import walked
from helper import (
    BIG, BIGGEST, FAR_OFF, NO_MEMBERS, OTHER_THINGS, cross, form, in_form, refused, small_places, some_changes, sums,
    volume,
)

CIRCLE = [(1, 0, 1), (0, 1, 1), (-1, 0, 1), (0, -1, 1), (3, 4, 5)]
PARABOLA = [(0, 0, 1), (1, 1, 1), (2, 4, 1), (-1, 1, 1), (-3, 9, 1)]
# x y is z z; two of the five are far.
HYPERBOLA = [(1, 0, 0), (0, 1, 0), (1, 1, 1), (-1, -1, 1), (4, 1, 2)]
FAR_OFF_FIVE = FAR_OFF + [(BIGGEST, -BIG, 3)]
TOLD = [(CIRCLE, (1, 1, -1, 0, 0, 0)), (PARABOLA, (1, 0, 0, 0, 0, -1)), (HYPERBOLA, (0, 0, 1, -1, 0, 0))]


def is_bent(places):
    return all(volume(*three) != 0 for three in itertools.combinations(places, 3))


def some_bent(many, pegs, most):
    """Lists of so many places of which no three lie on one line, the same ones at each run."""
    chance = random.Random(many)
    places = small_places(most)
    told = []
    while len(told) < many:
        bent = chance.sample(places, pegs)
        if is_bent(bent):
            told.append(bent)
    return told


def parts(place):
    x, y, z = place
    return [x * x, y * y, z * z, x * y, x * z, y * z]


def at_bow(bow, place):
    return sum(number * part for number, part in zip(bow, parts(place)))


def solved(five):
    """The bow of five places as what solves five rows of six numbers."""
    rows = [[Fraction(part) for part in parts(place)] for place in five]
    led = []
    for column in range(6):
        at = next((row for row in range(len(led), 5) if rows[row][column] != 0), None)
        if at is None:
            continue
        here = len(led)
        rows[here], rows[at] = rows[at], rows[here]
        rows[here] = [part / rows[here][column] for part in rows[here]]
        for other in range(5):
            if other != here:
                rows[other] = [p - rows[other][column] * q for p, q in zip(rows[other], rows[here])]
        led.append(column)
    free, = [column for column in range(6) if column not in led]
    answer = [Fraction(0)] * 6
    answer[free] = Fraction(1)
    for row, column in enumerate(led):
        answer[column] = -rows[row][free]
    whole = math.lcm(*[part.denominator for part in answer])
    return form([int(part * whole) for part in answer])


def met_again(bow, first, place):
    """The other place of the line through a place of a bow and another one at which it is on the bow."""
    a, b, c, d, e, f = bow
    (x, y, z), (u, v, w) = first, place
    mixed = 2 * a * x * u + 2 * b * y * v + 2 * c * z * w + d * (x * v + y * u) + e * (x * w + z * u) + f * (y * w + z * v)
    square = at_bow(bow, place)
    return in_form(tuple(square * p - mixed * q for p, q in zip(first, place)))


def touching(bow, place):
    """The line that touches a bow at a place."""
    a, b, c, d, e, f = bow
    x, y, z = place
    return in_form((2 * a * x + d * y + e * z, 2 * b * y + d * x + f * z, 2 * c * z + e * x + f * y))


def on_the_line(line, most):
    """Some places of a line: where it crosses others."""
    others = [other for other in small_places(most) if other != line]
    return sorted({in_form(cross(line, other)) for other in others})


def sixths(five, bow):
    """Places of every kind for the sixth one: of the five, on a line of two of them, on that which touches, others."""
    told = five[1:] + [place for place in small_places(1) if place != five[0]]
    for pair in itertools.combinations(five, 2):
        told += on_the_line(in_form(cross(*pair)), 1)
    told += on_the_line(touching(bow, five[0]), 1) + on_the_line(touching(bow, five[3]), 1)
    return [place for place in told if place != five[0]]


def no_bents(good):
    """Things of any kind that are no list of so many places of which no three lie on one line."""
    many = len(good)
    told = [good[:-1], good[:1], [], good + [(911, 13, 7)], good + good, good * 3, good[:-1] + [[good[-1]]], [good] * many]
    for i, j, k in itertools.permutations(range(many), 3):
        if i < j:
            flat = list(good)
            flat[k] = in_form(tuple(p + 2 * q for p, q in zip(good[i], good[j])))
            told.append(flat)
    for i, j in itertools.permutations(range(many), 2):
        alike = list(good)
        alike[i] = alike[j]
        told.append(alike)
    for thing in [member for member in NO_MEMBERS if type(member) is not object] + OTHER_THINGS:
        for at in range(many):
            bad = list(good)
            bad[at] = thing
            told.append(bad)
    return told + OTHER_THINGS + [
        tuple(good), set(good), frozenset(good), dict.fromkeys(good), dict(enumerate(good)), "", "abcde", "abcdef", good[0],
        (1, 1, -1, 0, 0, 0), [1, 1, -1, 0, 0], [1, 1, -1, 0, 0, 0],
    ]


class Bows(unittest.TestCase):
    def told(self, five):
        handed = list(five)
        told = bow_of(handed)
        self.assertEqual(handed, five)
        self.assertIs(type(told), tuple)
        self.assertEqual([type(number) for number in told], [int] * 6)
        self.assertEqual(form(told), told)
        self.assertEqual(bow_of(handed), told)
        return told

    def test_told_ones(self):
        for five, bow in TOLD:
            self.assertEqual(self.told(five), bow)
        self.assertEqual(self.told([(1, 0, 0), (0, 1, 0), (0, 0, 1), (1, 1, 1), (3, 2, 1)]), (0, 0, 0, 1, -4, 3))
        # A circle about (3, -2) whose radius is 5.
        circle = [(8, -2, 1), (-2, -2, 1), (3, 3, 1), (6, 2, 1), (-1, -5, 1)]
        self.assertEqual(self.told(circle), (1, 1, -12, 0, -6, 4))

    def test_as_solved(self):
        for five in some_bent(150, 5, 2) + some_bent(151, 5, 5) + [CIRCLE, PARABOLA, HYPERBOLA, FAR_OFF_FIVE]:
            bow = self.told(five)
            self.assertEqual(bow, solved(five))
            for place in five:
                self.assertEqual(at_bow(bow, place), 0)

    def test_each_order(self):
        for five in [CIRCLE, PARABOLA, HYPERBOLA, FAR_OFF_FIVE] + some_bent(3, 5, 3):
            bow = bow_of(five)
            for order in itertools.permutations(five):
                self.assertEqual(self.told(list(order)), bow)

    def test_any_five_of_one_bow(self):
        # (t t - 1, 2 t, t t + 1) are all on the circle.
        places = [in_form((t * t - s * s, 2 * t * s, t * t + s * s)) for t, s in itertools.product(range(-4, 5), range(1, 4))]
        places = sorted(set(places + [(1, 0, 1)]))
        chance = random.Random(25)
        for turn in range(100):
            self.assertEqual(self.told(chance.sample(places, 5)), (1, 1, -1, 0, 0, 0))

    def test_far_ones_alone_are_two_at_most(self):
        refused(self, NoBow, bow_of, [(1, 0, 0), (0, 1, 0), (1, 1, 0), (1, 2, 1), (0, 0, 1)])

    def test_on_bow(self):
        for five in [CIRCLE, PARABOLA, HYPERBOLA, FAR_OFF_FIVE] + some_bent(40, 5, 3):
            bow = bow_of(five)
            for place in five:
                self.assertIs(on_bow(bow, place), True)
            for place in small_places(2) + FAR_OFF:
                self.assertIs(on_bow(bow, place), at_bow(bow, place) == 0)
        self.assertIs(on_bow((1, 1, -1, 0, 0, 0), (5, -12, 13)), True)
        self.assertIs(on_bow((1, 1, -1, 0, 0, 0), (5, -12, 14)), False)
        for at in range(6):
            numbers = tuple(int(k == at) for k in range(6))
            for place in small_places(1):
                self.assertIs(on_bow(numbers, place), parts(place)[at] == 0)


class Again(unittest.TestCase):
    def told(self, five, place):
        handed = list(five)
        told = again(handed, place)
        self.assertEqual(handed, five)
        self.assertEqual(again(handed, place), told)
        return told

    def test_told_ones(self):
        self.assertEqual(self.told(CIRCLE, (-1, 0, 1)), (-1, 0, 1))
        self.assertEqual(self.told(CIRCLE, (0, 0, 1)), (-1, 0, 1))
        self.assertEqual(self.told(CIRCLE, (1, 0, 0)), (-1, 0, 1))
        self.assertEqual(self.told(CIRCLE, (0, 1, 0)), (1, 0, 1))
        self.assertEqual(self.told(CIRCLE, (1, 5, 1)), (1, 0, 1))
        self.assertEqual(self.told(CIRCLE, (0, 1, 2)), (-3, 4, 5))
        self.assertEqual(self.told(PARABOLA, (1, 7, 1)), (7, 49, 1))
        self.assertEqual(self.told(PARABOLA, (0, 1, 0)), (0, 1, 0))
        self.assertEqual(self.told(PARABOLA, (1, 0, 0)), (0, 0, 1))

    def test_another_of_the_five(self):
        for five in [CIRCLE, PARABOLA, HYPERBOLA, FAR_OFF_FIVE] + some_bent(30, 5, 3):
            for other in five[1:]:
                self.assertEqual(self.told(five, other), other)
                for place in on_the_line(in_form(cross(five[0], other)), 1):
                    if place != five[0]:
                        self.assertEqual(self.told(five, place), other)

    def test_a_line_that_touches(self):
        for five in [CIRCLE, PARABOLA, HYPERBOLA, FAR_OFF_FIVE] + some_bent(30, 5, 3):
            line = touching(bow_of(five), five[0])
            places = [place for place in on_the_line(line, 1) if place != five[0]]
            self.assertGreater(len(places), 2)
            for place in places:
                self.assertEqual(self.told(five, place), five[0])

    def test_a_new_place(self):
        new = 0
        for five in [CIRCLE, PARABOLA, HYPERBOLA, FAR_OFF_FIVE] + some_bent(60, 5, 3):
            bow = bow_of(five)
            for place in small_places(1) + [(5, 7, 3), (-9, 4, 1), (BIG, 3, BIGGEST)]:
                if place != five[0]:
                    told = self.told(five, place)
                    self.assertEqual(told, met_again(bow, five[0], place))
                    self.assertEqual(at_bow(bow, told), 0)
                    self.assertEqual(volume(told, five[0], place), 0)
                    new += told not in five
        self.assertGreater(new, 300)

    def test_each_order_of_the_others(self):
        for five in [CIRCLE, HYPERBOLA]:
            bow = bow_of(five)
            for order in itertools.permutations(five):
                for place in [(5, 7, 3), (1, 2, 0), (0, 0, 1), (2, 0, 1)]:
                    self.assertEqual(self.told(list(order), place), met_again(bow, order[0], place))

    def test_pictures(self):
        for change in some_changes(25, 6):
            for five in [CIRCLE, PARABOLA]:
                like = [in_form(sums(change, place)) for place in five]
                for place in [(5, 7, 3), (1, 2, 0), (0, 5, 1)]:
                    right = in_form(sums(change, again(five, place)))
                    self.assertEqual(self.told(like, in_form(sums(change, place))), right)

    def test_same(self):
        for five in [CIRCLE, PARABOLA, HYPERBOLA, FAR_OFF_FIVE] + some_bent(10, 5, 2):
            refused(self, Same, again, list(five), five[0])
            with self.assertRaises(Same) as told:
                again(five, five[0])
            self.assertIsNone(told.exception.at)


class ThePlan(unittest.TestCase):
    def test_the_same_each_time_and_the_askers_own(self):
        first = bow_plan()
        self.assertIs(type(first), tuple)
        self.assertEqual(len(first), 2)
        self.assertIs(type(first[0]), list)
        self.assertIs(type(first[1]), int)
        right = copy.deepcopy(first)
        first[0].reverse()
        first[0].append("more")
        self.assertEqual(bow_plan(), right)
        self.assertEqual(again(CIRCLE, (0, 1, 2)), (-3, 4, 5))
        bow_plan()[0].clear()
        self.assertEqual(bow_plan(), right)

    def test_on_every_floor(self):
        plan, number = bow_plan()
        fives = [CIRCLE, PARABOLA, HYPERBOLA, FAR_OFF_FIVE] + some_bent(40, 5, 1) + some_bent(41, 5, 3)
        for five in fives:
            bow = solved(five)
            for place in sixths(five, bow):
                pegs = walked(five + [place], plan)[0]
                self.assertEqual(pegs[number], met_again(bow, five[0], place))

    def test_all_places_near_by(self):
        plan, number = bow_plan()
        for five in [CIRCLE, HYPERBOLA] + some_bent(4, 5, 2):
            bow = solved(five)
            for place in small_places(3):
                if place != five[0]:
                    self.assertEqual(walked(five + [place], plan)[0][number], met_again(bow, five[0], place))

    def test_the_pegs_in_each_order(self):
        plan, number = bow_plan()
        for five in [CIRCLE, PARABOLA, HYPERBOLA]:
            bow = bow_of(five)
            for order in itertools.permutations(five):
                for place in sixths(list(order), bow)[::9]:
                    self.assertEqual(walked(list(order) + [place], plan)[0][number], met_again(bow, order[0], place))

    def test_as_again_tells(self):
        plan, number = bow_plan()
        for places in some_bent(60, 6, 3):
            self.assertEqual(walked(places, plan)[0][number], again(places[:5], places[5]))


class Six(unittest.TestCase):
    def told(self, places):
        handed = list(places)
        told = six(handed)
        self.assertEqual(handed, places)
        self.assertIs(type(told), tuple)
        self.assertEqual(six(handed), told)
        return told

    def test_on_one_bow(self):
        for five, bow in TOLD:
            for place in small_places(7):
                if place not in five and at_bow(bow, place) == 0:
                    for order in itertools.islice(itertools.permutations(five + [place]), 0, 720, 37):
                        self.assertEqual(self.told(list(order)), ("bow", bow))

    def test_met_again_is_on_the_bow(self):
        done = 0
        for five in some_bent(40, 5, 3) + [FAR_OFF_FIVE]:
            place = again(five, (5, 7, 3))
            if place not in five:
                self.assertEqual(self.told(five + [place]), ("bow", solved(five)))
                done += 1
        self.assertGreater(done, 30)

    def test_off_it(self):
        for places in some_bent(200, 6, 3) + [CIRCLE + [(5, 7, 3)], PARABOLA + [(5, 7, 3)], FAR_OFF_FIVE + [(1, 2, 3)]]:
            bow = solved(places[:5])
            if at_bow(bow, places[5]) == 0:
                self.assertEqual(self.told(places), ("bow", bow))
            else:
                self.assertEqual(self.told(places), ("off", met_again(bow, places[0], places[5])))

    def test_told_ones(self):
        self.assertEqual(self.told(CIRCLE + [(-3, 4, 5)]), ("bow", (1, 1, -1, 0, 0, 0)))
        self.assertEqual(self.told(CIRCLE + [(-1, 2, 2)]), ("off", (-5, 12, 13)))
        self.assertEqual(self.told(CIRCLE + [(1, 5, 1)]), ("off", (1, 0, 1)))

    def test_no_bow_within_six(self):
        good = CIRCLE + [(-3, 4, 5)]
        for places in [CIRCLE + [(0, 0, 1)], CIRCLE + [CIRCLE[2]], CIRCLE, good + [(5, 12, 13)], tuple(good), [good]]:
            refused(self, NoBow, six, places)


class NoBows(unittest.TestCase):
    def test_no_five(self):
        for thing in no_bents(CIRCLE) + no_bents(HYPERBOLA)[:140]:
            with self.subTest(repr(thing)):
                refused(self, NoBow, bow_of, thing)
                refused(self, NoBow, again, thing, (5, 7, 3))

    def test_ahead_of_same(self):
        for thing in no_bents(CIRCLE):
            if isinstance(thing, list) and thing:
                refused(self, NoBow, again, thing, thing[0])

    def test_no_six(self):
        for thing in no_bents(CIRCLE + [(-3, 4, 5)]) + no_bents(CIRCLE + [(5, 7, 3)])[:200]:
            with self.subTest(repr(thing)):
                refused(self, NoBow, six, thing)


if __name__ == "__main__":
    unittest.main()
