"""Points 15 and 16: changes."""

import copy
import itertools
import random
import unittest

from chalkline.changes import between, both, change_of, is_change, led, led_line, undoing
from chalkline.errors import NoChange, NoFrame
from chalkline.places import is_place, lies, through
from helper import (
    BIG, BIGGEST, FAR_OFF, OTHER_THINGS, SQUARE, STANDARD, det, form, has_form, in_form, is_frame, no_fours, refused,
    small_places, some_changes, some_frames, sums,
)

STAY = (1, 0, 0, 0, 1, 0, 0, 0, 1)
TURN = (0, 1, 0, 0, 0, 1, 1, 0, 0)
SHIFT = (1, 0, 2, 0, 1, 3, 0, 0, 1)
FLAT = [
    (0,) * 9, (1,) * 9, (1, 2, 3, 4, 5, 6, 7, 8, 9), (1, 0, 0, 0, 1, 0, 0, 0, 0), (1, 0, 0, 1, 0, 0, 0, 0, 1),
    (0, 1, 0, 0, 0, 1, 0, 0, 0), (1, 2, 3, 2, 4, 6, 0, 0, 1), (1, 2, 3, 0, 0, 0, 4, 5, 6), (BIG, 1, 1, BIG, 1, 1, 0, 0, 1),
    (0, 1, 2, 0, 3, 5, 0, 4, 7), (1, 0, 1, 0, 1, 1, 1, 1, 2),
]
NO_NUMBERS = [True, False, None, 1.0, 0.0, "1", "", (1,), [1], {}, 1j, int]


class IsChange(unittest.TestCase):
    def test_changes(self):
        for change in [STAY, TURN, SHIFT, (0, 0, 1, 0, 1, 0, 1, 0, 0), (0, 0, 1, 0, -1, 0, -1, 0, 0),
                       (1, 0, 0, 0, -1, 0, 0, 0, -1), (2, 0, 0, 0, 3, 0, 0, 0, 6), (6, 0, 0, 0, 10, 0, 0, 0, 15),
                       (BIG, 1, 0, 0, BIG, 1, 1, 0, -BIGGEST), (1, 2, 3, 4, 5, 6, 7, 8, 10)]:
            with self.subTest(change):
                self.assertNotEqual(det(change), 0)
                self.assertIs(is_change(change), True)

    def test_wrong_forms(self):
        for nine in [
            (-1, 0, 0, 0, -1, 0, 0, 0, -1), (-1, 0, 0, 0, 1, 0, 0, 0, 1), (2, 0, 0, 0, 2, 0, 0, 0, 2),
            (3, 0, 0, 0, 6, 0, 0, 0, 9), (0, -1, 0, 1, 0, 0, 0, 0, 1), (0, 0, -1, 0, 1, 0, 1, 0, 0),
            (BIG, 0, 0, 0, BIG, 0, 0, 0, BIG), tuple(-number for number in SHIFT), (0, 0, -2, 0, 2, 0, 2, 0, 0),
        ]:
            with self.subTest(nine):
                self.assertNotEqual(det(nine), 0)
                self.assertIs(is_change(nine), False)
        for nine in FLAT:
            with self.subTest(nine):
                self.assertIs(is_change(nine), False)

    def test_all_of_few_numbers(self):
        for nine in itertools.product((-1, 0, 2), repeat=9):
            right = det(nine) != 0
            self.assertIs(is_change(nine), right and form(nine) == nine)

    def test_other_kinds(self):
        for thing in OTHER_THINGS + [
            [], list(STAY), STAY[:8], STAY + (1,), STAY + STAY, STAY[:3], (STAY[:3], STAY[3:6], STAY[6:]), (STAY,), "100010001",
            [STAY], {0: STAY}, dict(enumerate(STAY)), b"\x01\x00\x00\x00\x01\x00\x00\x00\x01", object(), range(9),
        ]:
            with self.subTest(repr(thing)):
                self.assertIs(is_change(thing), False)

    def test_a_thing_that_is_no_whole_number_at_each_of_the_nine(self):
        for thing, at in itertools.product(NO_NUMBERS, range(9)):
            nine = list(STAY)
            nine[at] = thing
            with self.subTest(repr(nine)):
                self.assertIs(is_change(tuple(nine)), False)


class ChangeOf(unittest.TestCase):
    def test_told_ones(self):
        for nine, change in [
            (STAY, STAY), ((5, 0, 0, 0, 5, 0, 0, 0, 5), STAY), ((-5, 0, 0, 0, -5, 0, 0, 0, -5), STAY),
            ((-1, 0, 0, 0, 1, 0, 0, 0, 1), (1, 0, 0, 0, -1, 0, 0, 0, -1)),
            ((0, -2, 0, 4, 0, 0, 0, 0, 6), (0, 1, 0, -2, 0, 0, 0, 0, -3)),
            ((0, 0, -3, 0, 6, 0, -9, 0, 0), (0, 0, 1, 0, -2, 0, 3, 0, 0)),
            ((2, 4, 6, 0, 8, 10, 0, 0, 12), (1, 2, 3, 0, 4, 5, 0, 0, 6)), ((6, 0, 0, 0, 10, 0, 0, 0, 15),) * 2,
        ]:
            with self.subTest(nine):
                for handed in [nine, list(nine)]:
                    before = copy.copy(handed)
                    told = change_of(handed)
                    self.assertEqual(told, change)
                    self.assertIs(type(told), tuple)
                    self.assertEqual(handed, before)
                    self.assertIs(type(handed), type(before))

    def test_all_of_few_numbers(self):
        for nine in itertools.product((-2, 0, 2), repeat=9):
            if det(nine) != 0:
                told = change_of(nine)
                self.assertEqual(told, form(nine))
                self.assertIs(is_change(told), True)
            else:
                with self.assertRaises(NoChange):
                    change_of(nine)

    def test_sixty_figures(self):
        for nine in [
            (BIG, BIGGEST, 1, 0, BIG, -1, BIGGEST, 0, BIG), (-BIG, BIGGEST, BIG + 1, 5, -BIG, 1, BIGGEST, 2, BIG),
            (10 ** 59, 0, 0, 0, -(10 ** 58), 0, 10 ** 57, 0, 10 ** 59),
        ]:
            for times in [1, -1, 6, -(10 ** 59)]:
                with self.subTest(nine=nine, times=times):
                    self.assertEqual(change_of([number * times for number in nine]), form(nine))

    def test_a_determinant_of_nought(self):
        for nine in FLAT:
            with self.subTest(nine):
                self.assertEqual(det(nine), 0)
                refused(self, NoChange, change_of, nine)
                refused(self, NoChange, change_of, list(nine))

    def test_too_few_and_too_many(self):
        for nine in [(), (1,), STAY[:4], STAY[:8], STAY[1:], STAY + (0,), STAY + (1,), STAY + STAY, (1,) * 3]:
            with self.subTest(nine):
                refused(self, NoChange, change_of, nine)
                refused(self, NoChange, change_of, list(nine))

    def test_things_that_are_no_whole_number(self):
        for thing, at in itertools.product(NO_NUMBERS, range(9)):
            nine = list(STAY)
            nine[at] = thing
            with self.subTest(repr(nine)):
                refused(self, NoChange, change_of, nine)
                refused(self, NoChange, change_of, tuple(nine))

    def test_other_kinds(self):
        for thing in OTHER_THINGS + [
            [], "100010001", b"\x01\x00\x00\x00\x01\x00\x00\x00\x01", dict(enumerate(STAY)), dict.fromkeys(range(9), 1),
            [list(STAY)], (STAY,), [STAY[:3], STAY[3:6], STAY[6:]], set(range(9)), range(9), bytearray(STAY),
        ]:
            with self.subTest(repr(thing)):
                refused(self, NoChange, change_of, thing)


class Led(unittest.TestCase):
    def test_told_ones(self):
        for change, place, right in [
            (STAY, (3, -4, 5), (3, -4, 5)), (TURN, (3, -4, 5), (-4, 5, 3)), (SHIFT, (0, 0, 1), (2, 3, 1)),
            (SHIFT, (1, 1, 2), (5, 7, 2)), (SHIFT, (1, 5, 0), (1, 5, 0)), (TURN, (1, 0, 0), (0, 0, 1)),
            ((1, 0, 0, 0, 1, 0, 0, 0, -1), (1, 2, 3), (-1, -2, 3)), ((2, 0, 0, 0, 2, 0, 0, 0, 1), (1, 1, 2), (1, 1, 1)),
        ]:
            with self.subTest(change=change, place=place):
                self.assertEqual(led(change, place), right)

    def test_lines_told(self):
        for change, line, right in [
            (STAY, (3, -4, 5), (3, -4, 5)), (SHIFT, (1, 0, 0), (-1, 0, 2)), (SHIFT, (0, 1, 0), (0, -1, 3)),
            (SHIFT, (0, 0, 1), (0, 0, 1)), (TURN, (1, 0, 0), (0, 0, 1)), (TURN, (0, 1, 0), (1, 0, 0)),
            ((2, 0, 0, 0, 3, 0, 0, 0, 1), (1, 1, 1), (3, 2, 6)),
        ]:
            with self.subTest(change=change, line=line):
                self.assertEqual(led_line(change, line), right)

    def test_many(self):
        places = small_places(2)
        for change in some_changes(30, 4) + some_changes(10, 50):
            for place in places:
                told = led(change, place)
                self.assertIs(type(told), tuple)
                self.assertEqual(told, in_form(sums(change, place)))

    def test_a_place_on_a_line_is_led_to_one_on_the_led_line(self):
        places = small_places(1)
        for change in some_changes(25, 3):
            for place, line in itertools.product(places, repeat=2):
                told = led_line(change, line)
                self.assertIs(type(told), tuple)
                self.assertTrue(has_form(told))
                self.assertIs(lies(led(change, place), told), lies(place, line))

    def test_the_line_through_two_led_places(self):
        chance = random.Random(3)
        places = small_places(3)
        for change in some_changes(60, 9):
            one, other = chance.sample(places, 2)
            self.assertEqual(led_line(change, through(one, other)), through(led(change, one), led(change, other)))

    def test_sixty_figures(self):
        one, other = (BIG, BIGGEST, 1), (-BIGGEST, BIG, BIG + 2)
        for change in some_changes(10, BIGGEST):
            self.assertEqual(led(change, one), in_form(sums(change, one)))
            line = led_line(change, through(one, other))
            self.assertTrue(has_form(line))
            self.assertTrue(lies(led(change, one), line) and lies(led(change, other), line))


class BothAndUndoing(unittest.TestCase):
    def test_told_ones(self):
        double = (2, 0, 0, 0, 2, 0, 0, 0, 1)
        self.assertEqual(both(SHIFT, double), (2, 0, 4, 0, 2, 6, 0, 0, 1))
        self.assertEqual(both(double, SHIFT), (2, 0, 2, 0, 2, 3, 0, 0, 1))
        self.assertEqual(undoing(SHIFT), (1, 0, -2, 0, 1, -3, 0, 0, 1))
        self.assertEqual(undoing(double), (1, 0, 0, 0, 1, 0, 0, 0, 2))
        self.assertEqual(undoing(TURN), (0, 0, 1, 1, 0, 0, 0, 1, 0))
        self.assertEqual(undoing(STAY), STAY)
        self.assertEqual(both(TURN, both(TURN, TURN)), STAY)

    def test_the_first_one_first(self):
        changes = some_changes(24, 5)
        for first, second in itertools.product(changes, repeat=2):
            told = both(first, second)
            self.assertIs(is_change(told), True)
            for place in STANDARD + [(3, -5, 2)]:
                self.assertEqual(led(told, place), led(second, led(first, place)))
                self.assertEqual(led_line(told, place), led_line(second, led_line(first, place)))

    def test_undone_either_way_about(self):
        for change in some_changes(150, 6) + some_changes(20, BIGGEST) + [STAY, TURN, SHIFT]:
            back = undoing(change)
            self.assertIs(is_change(back), True)
            self.assertEqual(both(change, back), STAY)
            self.assertEqual(both(back, change), STAY)
            self.assertEqual(undoing(back), change)
            for place in STANDARD + [(3, -5, 2), (BIG, 1, BIGGEST)]:
                self.assertEqual(led(back, led(change, place)), place)
                self.assertEqual(led_line(back, led_line(change, place)), place)

    def test_staying_changes_nothing(self):
        for change in some_changes(30, 4):
            self.assertEqual(both(STAY, change), change)
            self.assertEqual(both(change, STAY), change)

    def test_a_long_row_of_changes(self):
        told = STAY
        places = list(STANDARD)
        for change in some_changes(40, 30):
            told = both(told, change)
            places = [led(change, place) for place in places]
        self.assertEqual([led(told, place) for place in STANDARD], places)
        self.assertEqual(both(told, undoing(told)), STAY)


class Between(unittest.TestCase):
    def test_told_ones(self):
        self.assertEqual(between(STANDARD, STANDARD), STAY)
        self.assertEqual(between(SQUARE, SQUARE), STAY)
        self.assertEqual(between(STANDARD, [(0, 0, 1), (1, 0, 0), (0, 1, 0), (1, 1, 1)]), TURN)
        self.assertEqual(between(SQUARE, [(2, 3, 1), (3, 3, 1), (2, 4, 1), (3, 4, 1)]), SHIFT)
        self.assertEqual(between(SQUARE, STANDARD), (1, 1, -1, 1, 0, 0, 0, 1, 0))

    def test_each_is_led_to_its_like(self):
        frames = some_frames(40)
        for four, other in itertools.product(frames, repeat=2):
            change = between(four, other)
            self.assertIs(is_change(change), True)
            self.assertEqual([led(change, place) for place in four], other)
        for four, other in itertools.product(frames[:8], repeat=2):
            self.assertEqual(undoing(between(four, other)), between(other, four))

    def test_it_finds_each_change_again(self):
        for change, four in zip(some_changes(80, 7), some_frames(80)):
            self.assertEqual(between(four, [led(change, place) for place in four]), change)

    def test_in_each_order(self):
        for turned in itertools.permutations(SQUARE):
            change = between(SQUARE, list(turned))
            self.assertEqual([led(change, place) for place in SQUARE], list(turned))

    def test_sixty_figures(self):
        self.assertTrue(is_frame(FAR_OFF) and all(is_place(place) for place in FAR_OFF))
        for one, other in [(FAR_OFF, SQUARE), (SQUARE, FAR_OFF), (FAR_OFF, FAR_OFF[::-1])]:
            change = between(one, other)
            self.assertIs(is_change(change), True)
            self.assertEqual([led(change, place) for place in one], other)


class NoFrames(unittest.TestCase):
    def test_on_either_side_and_on_both(self):
        for thing in no_fours():
            with self.subTest(repr(thing)):
                refused(self, NoFrame, between, thing, list(SQUARE))
                refused(self, NoFrame, between, list(SQUARE), thing)
                refused(self, NoFrame, between, thing, thing)


class NothingIsKept(unittest.TestCase):
    def test_what_was_handed_in_is_as_before(self):
        four, other, nine = list(STANDARD), list(SQUARE), list(SHIFT)
        right = between(four, other)
        change_of(nine)
        self.assertEqual((four, other, nine), (STANDARD, SQUARE, list(SHIFT)))
        refused(self, NoFrame, between, four, other[:3])
        self.assertEqual(between(four, other), right)

    def test_what_is_done_later_changes_nothing_told(self):
        four, other, nine = list(STANDARD), list(SQUARE), list(SHIFT)
        told = [between(four, other), change_of(nine)]
        right = copy.deepcopy(told)
        four.clear()
        other.reverse()
        nine[0] = 9
        self.assertEqual(told, right)


if __name__ == "__main__":
    unittest.main()
