"""Points 5 and 6: places and lines."""

import copy
import itertools
import unittest
from fractions import Fraction

from chalkline.errors import NoPlace, Same
from chalkline.places import crossing, is_place, is_whole, lies, on_one, place_of, through
from helper import BIG, BIGGEST, cross, has_form, small_places, volume

NO_WHOLE = [
    True, False, None, 1.0, 0.0, Fraction(1), 1j, "1", "", b"1", [1], [], (1,), (), {1: 1}, {1}, frozenset([1]),
    int, len, object(), range(3), float("nan"),
]


class Whole(unittest.TestCase):
    def test_whole_numbers(self):
        for number in [0, 1, -1, 2, 17, -40, BIG, -BIG, BIGGEST, -BIGGEST, 10 ** 400]:
            self.assertIs(is_whole(number), True)

    def test_what_is_none(self):
        for thing in NO_WHOLE:
            with self.subTest(repr(thing)):
                self.assertIs(is_whole(thing), False)


class IsPlace(unittest.TestCase):
    def test_places(self):
        for place in [
            (1, 0, 0), (0, 1, 0), (0, 0, 1), (1, 1, 1), (-3, 5, 2), (-1, 1, 0), (5, -3, 7), (0, -1, 1), (-1, 0, 1),
            (-1, -1, 1), (2, 3, 0), (0, 2, 3), (2, 0, 3), (6, 10, 15), (BIG, -BIG, 1), (BIGGEST, 1, 0),
            (-BIGGEST, 1, 0), (1, -BIGGEST, BIGGEST),
        ]:
            with self.subTest(place):
                self.assertIs(is_place(place), True)

    def test_all_small_ones(self):
        for three in itertools.product(range(-5, 6), repeat=3):
            self.assertIs(is_place(three), any(three) and has_form(three), three)

    def test_wrong_forms(self):
        for three in [
            (0, 0, 0), (-1, 0, 0), (0, -1, 0), (0, 0, -1), (1, -1, 0), (1, 1, -1), (2, 0, 0), (0, 0, 2), (2, 4, 6),
            (3, 0, 6), (BIG, 0, 0), (2 * BIG, 4, 6 * BIG), (BIG, BIG, BIG), (1, 1, -BIG),
        ]:
            with self.subTest(three):
                self.assertIs(is_place(three), False)

    def test_truths_are_no_numbers(self):
        for three in [(True, 0, 0), (0, True, 0), (0, 0, True), (1, False, 0), (False, False, True), (1, 1, True)]:
            with self.subTest(three):
                self.assertIs(is_place(three), False)

    def test_other_kinds(self):
        for thing in NO_WHOLE + [
            0, 1, (1, 0), (1,), (), (1, 0, 0, 0), (1, 0, 0, 1), [1, 0, 0], [0, 0, 1], {0: 1, 1: 0, 2: 0}, "100", "abc",
            ((1, 0, 0),), ((1,), 0, 0), ([1], 0, 0), (None, 0, 1), (0, 0, 1.0), ("1", "0", "0"), {1, 2, 3},
        ]:
            with self.subTest(repr(thing)):
                self.assertIs(is_place(thing), False)

    def test_a_thing_of_another_kind_at_each_of_the_three(self):
        for thing in NO_WHOLE:
            for at in range(3):
                three = [1, 1, 1]
                three[at] = thing
                with self.subTest(repr(three)):
                    self.assertIs(is_place(tuple(three)), False)


class PlaceOf(unittest.TestCase):
    def test_told_ones(self):
        for three, place in [
            ((2, 4, 6), (1, 2, 3)), ((-2, -4, -6), (1, 2, 3)), ((2, 4, -6), (-1, -2, 3)), ((0, 0, -5), (0, 0, 1)),
            ((0, -5, 0), (0, 1, 0)), ((-5, 0, 0), (1, 0, 0)), ((4, -6, 0), (-2, 3, 0)), ((-4, 6, 0), (-2, 3, 0)),
            ((0, 6, -9), (0, -2, 3)), ((6, 0, 9), (2, 0, 3)), ((6, 10, 15), (6, 10, 15)), ((1, 1, 1), (1, 1, 1)),
            ((-7, 7, 7), (-1, 1, 1)), ((5, 7, -1), (-5, -7, 1)), ((3, 0, 0), (1, 0, 0)),
        ]:
            with self.subTest(three):
                self.assertEqual(place_of(*three), place)

    def test_all_small_ones(self):
        for three in itertools.product(range(-6, 7), repeat=3):
            if any(three):
                place = place_of(*three)
                self.assertIs(type(place), tuple)
                self.assertTrue(has_form(place), three)
                self.assertEqual(cross(three, place), (0, 0, 0), three)

    def test_what_is_in_the_form_stays(self):
        for place in small_places(4):
            self.assertEqual(place_of(*place), place)

    def test_sixty_figures(self):
        for place in [(BIG, BIG + 1, BIGGEST), (-BIG, BIGGEST, 1), (BIG, -1, BIGGEST), (-BIGGEST, BIG, 0)]:
            self.assertTrue(has_form(place))
            for times in [1, -1, 2, -3, 10 ** 40, -(10 ** 59)]:
                with self.subTest(place=place, times=times):
                    self.assertEqual(place_of(*[number * times for number in place]), place)
        self.assertEqual(place_of(BIG, 0, 0), (1, 0, 0))
        self.assertEqual(place_of(0, -BIGGEST, 0), (0, 1, 0))
        self.assertEqual(place_of(0, 0, -BIG), (0, 0, 1))
        self.assertEqual(place_of(-BIGGEST, 0, -BIGGEST), (1, 0, 1))
        self.assertEqual(place_of(10 ** 59, 5 * 10 ** 58, -(10 ** 58)), (-10, -5, 1))

    def test_all_nought(self):
        with self.assertRaises(NoPlace):
            place_of(0, 0, 0)

    def test_other_kinds(self):
        for thing in NO_WHOLE:
            for at in range(3):
                three = [1, 2, 3]
                three[at] = thing
                with self.subTest(repr(three)):
                    with self.assertRaises(NoPlace):
                        place_of(*three)
        for three in [(False, False, False), (None, None, None), (0, 0, False), (True, True, True)]:
            with self.assertRaises(NoPlace):
                place_of(*three)

    def test_what_was_handed_in_is_as_before(self):
        inner = [1]
        with self.assertRaises(NoPlace):
            place_of(inner, 0, 1)
        self.assertEqual(inner, [1])


class Lies(unittest.TestCase):
    def test_told_ones(self):
        self.assertIs(lies((0, 0, 1), (1, 1, 0)), True)
        self.assertIs(lies((0, 0, 1), (1, 1, 1)), False)
        self.assertIs(lies((2, 3, 1), (-3, 2, 0)), True)
        self.assertIs(lies((2, 3, 1), (-1, -1, 5)), True)
        self.assertIs(lies((2, 3, 1), (-1, -1, 4)), False)

    def test_all_far_places_lie_on_the_far_line(self):
        for place in small_places(3):
            self.assertIs(lies(place, (0, 0, 1)), place[2] == 0)

    def test_all_small_ones_and_exchanged(self):
        for place, line in itertools.product(small_places(2), repeat=2):
            on = sum(p * n for p, n in zip(place, line)) == 0
            self.assertIs(lies(place, line), on)
            self.assertIs(lies(line, place), on)

    def test_sixty_figures(self):
        place = (BIG, BIGGEST, 1)
        line = (1, 1, -BIG - BIGGEST)
        self.assertIs(lies(place, place_of(*line)), True)
        self.assertIs(lies(place_of(*line), place), True)
        self.assertIs(lies(place, place_of(1, 1, -BIG - BIGGEST - 1)), False)


class ThroughAndCrossing(unittest.TestCase):
    def test_told_ones(self):
        self.assertEqual(through((0, 0, 1), (1, 0, 1)), (0, 1, 0))
        self.assertEqual(through((0, 0, 1), (0, 1, 1)), (1, 0, 0))
        self.assertEqual(through((1, 0, 1), (0, 1, 1)), (-1, -1, 1))
        self.assertEqual(through((1, 0, 0), (0, 1, 0)), (0, 0, 1))
        self.assertEqual(through((2, 0, 1), (4, 0, 1)), (0, 1, 0))
        self.assertEqual(crossing((1, 0, 0), (0, 1, 0)), (0, 0, 1))
        self.assertEqual(crossing((-2, 0, 1), (0, -3, 1)), (3, 2, 6))

    def test_lines_of_one_direction_cross_far(self):
        self.assertEqual(crossing((0, 1, 0), (0, -1, 1)), (1, 0, 0))
        self.assertEqual(crossing((-1, 1, 0), (-1, 1, 5)), (1, 1, 0))
        self.assertEqual(crossing((0, 0, 1), (1, 1, 3)), (-1, 1, 0))

    def test_all_small_ones(self):
        for one, other in itertools.product(small_places(2), repeat=2):
            for made in [through, crossing]:
                if one == other:
                    with self.assertRaises(Same) as told:
                        made(one, other)
                    self.assertIsNone(told.exception.at)
                else:
                    both = made(one, other)
                    self.assertIs(type(both), tuple)
                    self.assertTrue(any(both) and has_form(both))
                    self.assertEqual(sum(p * n for p, n in zip(one, both)), 0)
                    self.assertEqual(sum(p * n for p, n in zip(other, both)), 0)
                    self.assertEqual(made(other, one), both)

    def test_sixty_figures(self):
        one = (BIG, BIGGEST, 1)
        other = (-BIGGEST, BIG, BIG + 2)
        self.assertTrue(has_form(one) and has_form(other))
        for made in [through, crossing]:
            both = made(one, other)
            self.assertTrue(has_form(both))
            self.assertTrue(lies(one, both) and lies(other, both))
            self.assertEqual(made(other, one), both)
        with self.assertRaises(Same):
            through(one, (BIG, BIGGEST, 1))

    def test_alike_ones_made_otherwise(self):
        for made in [through, crossing]:
            with self.assertRaises(Same) as told:
                made(place_of(2, 4, 6), place_of(-1, -2, -3))
            self.assertIsNone(told.exception.at)


class OnOne(unittest.TestCase):
    def test_fewer_than_three_unlike_ones(self):
        for places in [
            [], [(1, 0, 0)], [(1, 0, 0), (0, 1, 0)], [(3, 4, 5)] * 7,
            [(3, 4, 5), (3, 4, 5), (1, 1, 1), (3, 4, 5), (1, 1, 1)], [(1, 0, 0), (1, 0, 0), (0, 0, 1)],
        ]:
            with self.subTest(places):
                self.assertIs(on_one(places), True)

    def test_all_on_one_line_and_all_but_one(self):
        on = [(0, 0, 1), (1, 2, 1), (2, 4, 1), (1, 2, 0), (-1, -2, 3), (BIG, 2 * BIG, 1)]
        self.assertIs(on_one(on), True)
        self.assertIs(on_one(on + on), True)
        for at in range(len(on) + 1):
            with self.subTest(at):
                self.assertIs(on_one(on[:at] + [(1, 3, 1)] + on[at:]), False)

    def test_far_places(self):
        far = [(1, 0, 0), (0, 1, 0), (1, 1, 0), (-7, 3, 0)]
        self.assertIs(on_one(far), True)
        self.assertIs(on_one(far + [(0, 0, 1)]), False)

    def test_alike_ones_ahead_of_the_one_that_is_off(self):
        self.assertIs(on_one([(0, 0, 1), (0, 0, 1), (1, 0, 1), (1, 0, 1), (0, 1, 1)]), False)
        self.assertIs(on_one([(0, 1, 1), (0, 0, 1), (0, 0, 1), (1, 0, 1)]), False)

    def test_all_small_threes(self):
        places = small_places(1)
        for three in itertools.product(places, repeat=3):
            self.assertIs(on_one(list(three)), volume(*three) == 0)

    def test_what_was_handed_in_is_as_before(self):
        for places in [[], [(0, 0, 1), (1, 0, 1), (0, 0, 1)], [(0, 0, 1), (1, 0, 1), (0, 1, 1)]]:
            before = copy.deepcopy(places)
            told = on_one(places)
            self.assertEqual(places, before)
            self.assertIs(on_one(places), told)


if __name__ == "__main__":
    unittest.main()
