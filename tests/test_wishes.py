"""Points 17 and 18: places by a frame, and plans for wishes."""

import itertools
import random
import unittest

from chalkline import wishes
from chalkline.changes import led
from chalkline.errors import Endless, NoFloor, NoFrame, TooMany
from chalkline.floors import comes, kind_of
from chalkline.plans import walked
from chalkline.wishes import by_frame, plan_for
from helper import (
    BIG, BIGGEST, FAR_OFF, NO_FLOORS, ROW, SQUARE, STANDARD, TIP, at_frame, first_frame, from_frame, has_form, in_form,
    is_frame, no_fours, refused, small_places, some_changes, some_frames,
)

FORTY = 10 ** 40 - 1
# Floors whose first frame is not the pegs 0 to 3, with its numbers.
LATE_FRAMES = [
    ([(2, 0, 1)] + SQUARE, (0, 1, 3, 4)),
    ([(0, 0, 1), (1, 0, 1), (2, 0, 1), (0, 1, 1), (3, 0, 1), (-1, 1, 0), (5, 4, 1)], (0, 1, 3, 6)),
    ([(1, 0, 0), (0, 1, 0), (1, 1, 0), (2, 1, 0), (0, 0, 1), (5, 3, 2)], (0, 1, 4, 5)),
    (ROW[:9] + [TIP, (3, 5, 1), (8, -1, 3)], (0, 1, 9, 11)),
    ([(0, 0, 1), (0, 1, 1), (0, 2, 1), (4, 2, 1), (2, 2, 1), (3, 2, 1), (9, 9, 2)], (0, 1, 3, 4)),
]
NO_FRAMES = [[TIP], ROW[:2], ROW[:3], ROW, SQUARE[:3], ROW[:3] + [TIP], [TIP] + ROW[:11], ROW[:6] + [TIP] + ROW[6:11]]


class ByFrame(unittest.TestCase):
    def test_the_standard_frame(self):
        self.assertEqual(wishes.STANDARD, STANDARD)
        self.assertIs(type(wishes.STANDARD), list)
        for place in small_places(3):
            self.assertEqual(by_frame(list(STANDARD), place), place)

    def test_told_ones(self):
        for place, numbers in [
            ((0, 0, 1), (1, 0, 0)), ((1, 0, 1), (0, 1, 0)), ((0, 1, 1), (0, 0, 1)), ((1, 1, 1), (1, 1, 1)),
            ((1, 1, 2), (0, 1, 1)), ((1, 0, 0), (-1, -1, 0)), ((2, 3, 1), (4, 2, 3)), ((1, 2, 4), (1, -1, -2)),
        ]:
            with self.subTest(place):
                told = by_frame(SQUARE, place)
                self.assertEqual(told, in_form(numbers))
                self.assertIs(type(told), tuple)

    def test_the_four_themselves_in_each_order(self):
        for four in some_frames(30) + [SQUARE, FAR_OFF]:
            for turned in itertools.permutations(four):
                self.assertEqual([by_frame(list(turned), place) for place in turned], STANDARD)

    def test_many(self):
        places = small_places(2)
        for four in some_frames(60):
            for turned in [four, four[::-1], [four[2], four[0], four[3], four[1]]]:
                for place in places:
                    told = by_frame(turned, place)
                    self.assertEqual(told, at_frame(turned, place))
                    self.assertEqual(from_frame(turned, told), place)

    def test_sixty_figures(self):
        places = STANDARD + SQUARE + FAR_OFF + [(BIGGEST, -BIG, 3), (BIG, BIGGEST, 0), (-BIG, 1, BIGGEST)]
        for four in [FAR_OFF, FAR_OFF[::-1], SQUARE, STANDARD]:
            for place in places:
                told = by_frame(four, place)
                self.assertTrue(has_form(told))
                self.assertEqual(told, at_frame(four, place))

    def test_a_change_of_all_changes_no_number(self):
        for four, change in zip(some_frames(40), some_changes(40, 9)):
            other = [led(change, place) for place in four]
            for place in [(3, -5, 2), (1, 4, 0), (0, 7, 1)]:
                self.assertEqual(by_frame(other, led(change, place)), by_frame(four, place))

    def test_what_are_no_such_four(self):
        for thing in no_fours():
            with self.subTest(repr(thing)):
                refused(self, NoFrame, by_frame, thing, (1, 2, 3))
                refused(self, NoFrame, by_frame, thing, (0, 0, 1))

    def test_nothing_is_changed_or_kept(self):
        four = list(SQUARE)
        told = by_frame(four, (2, 3, 1))
        self.assertEqual(four, SQUARE)
        four.reverse()
        self.assertEqual(by_frame(list(SQUARE), (2, 3, 1)), told)
        self.assertEqual(wishes.STANDARD, STANDARD)


class Planned(unittest.TestCase):
    def planned(self, floor, wish):
        """The plan for a wish, held to all that point 18 says of one floor."""
        handed = list(floor)
        told = plan_for(handed, wish)
        self.assertEqual(handed, floor)
        self.assertIs(type(told), tuple)
        plan, number = told
        self.assertIs(type(plan), list)
        self.assertIs(type(number), int)
        self.assertLessEqual(len(plan), 4000)
        frame = first_frame(floor)
        for deed in plan:
            if deed[0] == "line":
                self.assertTrue(all(peg in frame or peg >= len(floor) for peg in deed[1:]), deed)
        pegs = walked(floor, plan)[0]
        self.assertEqual(pegs[number], wish)
        if wish in [floor[peg] for peg in frame]:
            self.assertEqual(plan, [])
            self.assertIn(number, frame)
        else:
            self.assertEqual(plan[-1][0], "peg")
            self.assertEqual(number, len(pegs) - 1)
        return told

    def likewise(self, floor, others, wish):
        """That a plan does likewise on other floors on which the four pegs of the first frame are a frame."""
        plan, number = self.planned(floor, wish)
        frame = first_frame(floor)
        numbers = at_frame([floor[peg] for peg in frame], wish)
        for other in others:
            four = [other[peg] for peg in frame]
            self.assertTrue(is_frame(four))
            self.assertEqual(len(other), len(floor))
            self.assertEqual(at_frame(four, walked(other, plan)[0][number]), numbers)


class PlanFor(Planned):
    def test_pegs_of_the_frame(self):
        for floor, frame in LATE_FRAMES + [(STANDARD, (0, 1, 2, 3)), (FAR_OFF, (0, 1, 2, 3))]:
            self.assertEqual(first_frame(floor), frame)
            for peg in frame:
                self.assertEqual(self.planned(floor, floor[peg]), ([], peg))

    def test_pegs_that_are_not_of_the_frame(self):
        for floor, frame in LATE_FRAMES:
            for peg in range(len(floor)):
                if peg not in frame:
                    plan, number = self.planned(floor, floor[peg])
                    self.assertNotEqual(plan, [])
                    self.assertGreaterEqual(number, len(floor))

    def test_all_small_places(self):
        for floor in [STANDARD, SQUARE, SQUARE[::-1]]:
            for wish in small_places(4):
                self.planned(floor, wish)

    def test_places_by_late_frames(self):
        for floor, frame in LATE_FRAMES:
            for wish in small_places(2):
                self.planned(floor, wish)

    def test_noughts_and_ones_by_the_frame(self):
        numbers = [0, 1, -1, 2, -7, 64, 999999999, 10 ** 39]
        for three in itertools.product(numbers, repeat=3):
            if any(three):
                self.planned(STANDARD, in_form(three))

    def test_many_frames(self):
        chance = random.Random(18)
        places = small_places(3)
        for four in some_frames(60):
            for wish in chance.sample(places, 8):
                self.planned(four, wish)

    def test_figures_of_each_length(self):
        chance = random.Random(5)
        for figures in [1, 2, 5, 9, 16, 24, 33, 39, 40]:
            for turn in range(12):
                three = [chance.randrange(10 ** (figures - 1), 10 ** figures) for number in range(3)]
                signed = [number * chance.choice([1, -1]) for number in three]
                for handed in [three, signed, [signed[0], signed[1], 0], [signed[0], 0, three[2]], [0, signed[1], three[2]]]:
                    numbers = in_form(tuple(handed))
                    self.planned(STANDARD, numbers)
                    self.planned(SQUARE, from_frame(SQUARE, numbers))

    def test_the_longest(self):
        # All figures to the base two are ones, or noughts, or by turns one and nought, as far as forty figures go.
        for number in [2 ** 132 - 1, 2 ** 132, sum(4 ** k for k in range(66)), FORTY, 10 ** 39]:
            for three in [(number, number - 1, number - 2), (-number, number - 3, 1), (1, -number, number - 1),
                          (number - 1, 1, number), (number, 1 - number, 0), (number, number, number - 1)]:
                plan = self.planned(STANDARD, in_form(three))[0]
                self.assertLessEqual(len(plan), 4000)

    def test_sixty_figures_of_a_floor(self):
        for numbers in [(1, 2, 3), (0, 5, -3), (1, -1, 0), (FORTY, -FORTY + 1, FORTY - 2), (7, 0, 10 ** 39 + 1)]:
            self.planned(FAR_OFF, from_frame(FAR_OFF, numbers))

    def test_likewise_on_other_floors(self):
        chance = random.Random(6)
        frames = some_frames(12) + [FAR_OFF, SQUARE]
        for numbers in [(1, 1, 2), (3, -4, 5), (1, 1, 0), (-5, 3, 0), (0, 7, 2), (9, 0, -4), (FORTY, -1, FORTY - 1)]:
            for floor in chance.sample(frames, 4):
                self.likewise(floor, frames, from_frame(floor, numbers))

    def test_likewise_on_other_floors_of_more_pegs(self):
        for floor, frame in LATE_FRAMES:
            others = []
            for four in some_frames(9):
                other = list(floor)
                for peg, place in zip(frame, four):
                    other[peg] = place
                if len(set(other)) == len(other):
                    others.append(other)
            self.assertGreater(len(others), 2)
            for wish in [(2, 3, 1), (-7, 1, 0), (0, 1, 5), floor[[k not in frame for k in range(len(floor))].index(True)]]:
                self.likewise(floor, others, wish)


class TheWhole(Planned):
    """Point 4: of every floor just one is told."""

    def test_a_plan_for_each_place_or_all_that_ever_comes(self):
        chance = random.Random(4)
        places = small_places(2)
        kinds = []
        for floor in [chance.sample(places, many) for many in range(1, 13) for turn in range(12)] + NO_FRAMES:
            kind = kind_of(floor)[0]
            if kind == "frame":
                refused(self, Endless, comes, floor)
                for wish in chance.sample(places, 3) + [(71, -50, 13)]:
                    self.planned(floor, wish)
            else:
                self.assertEqual(comes(floor)[0], sorted(floor))
                for wish in [floor[0], (71, -50, 13)]:
                    refused(self, NoFrame, plan_for, floor, wish)
            kinds.append(kind)
        self.assertEqual(sorted(set(kinds)), ["fan", "frame", "line"])


class Refusals(unittest.TestCase):
    def test_no_floor(self):
        for thing in NO_FLOORS:
            with self.subTest(repr(thing)):
                with self.assertRaises(NoFloor):
                    plan_for(thing, (0, 0, 1))
                with self.assertRaises(NoFloor):
                    plan_for(thing, (10 ** 45, 1, 1))
        for floor in [[], ROW + [TIP], [TIP, TIP], SQUARE + [(1, 1, 1)], tuple(SQUARE)]:
            refused(self, NoFloor, plan_for, floor, (1, 2, 3))

    def test_no_frame(self):
        for floor in NO_FRAMES:
            with self.subTest(floor):
                for wish in [(1, 2, 3), floor[0], (0, 1, 0), (10 ** 45, 1, 1)]:
                    refused(self, NoFrame, plan_for, list(floor), wish)

    def test_forty_one_figures(self):
        for floor in [STANDARD, SQUARE, FAR_OFF, SQUARE[::-1]]:
            for number in [FORTY + 1, -FORTY - 1, FORTY + 2, 10 ** 41, -(10 ** 44) - 1, BIGGEST, 10 ** 200]:
                for numbers in [(number, 1, 1), (1, number, 1), (1, 1, number), (number, 1, 0), (0, 1, number),
                                (number, number - 1, 1), (FORTY, FORTY - 1, number), (number, 0, 1)]:
                    refused(self, TooMany, plan_for, list(floor), from_frame(floor, in_form(numbers)))

    def test_forty_figures_are_let(self):
        for floor in [STANDARD, SQUARE, FAR_OFF]:
            for number in [FORTY, -FORTY]:
                for numbers in [(number, 1, 1), (1, number, 1), (1, 1, number), (number, 1, 0), (0, 1, number)]:
                    wish = from_frame(floor, in_form(numbers))
                    plan, peg = plan_for(floor, wish)
                    self.assertEqual(walked(floor, plan)[0][peg], wish)

    def test_the_numbers_by_the_frame_are_looked_at_and_no_others(self):
        floor = [(1, 0, 0), (0, 1, 0), (0, 0, 1), (10 ** 45, 10 ** 45, 1)]
        plan, peg = plan_for(floor, (10 ** 46, 10 ** 47, 1))
        self.assertEqual(walked(floor, plan)[0][peg], (10 ** 46, 10 ** 47, 1))
        refused(self, TooMany, plan_for, floor, (1, 2, 1))

    def test_a_wish_of_very_many_figures(self):
        refused(self, TooMany, plan_for, list(STANDARD), (10 ** 5000, 1, 1))


class NothingIsKept(unittest.TestCase):
    def test_a_told_plan_is_the_askers_own(self):
        for wish in [(2, 3, 5), (0, 0, 1), (1, 1, 0)]:
            floor = list(STANDARD)
            plan, number = plan_for(floor, wish)
            right = list(plan)
            plan.append(("line", 0, 0))
            plan.reverse()
            self.assertEqual(plan_for(floor, wish), (right, number))
            self.assertEqual(floor, STANDARD)
            self.assertEqual(wishes.STANDARD, STANDARD)

    def test_what_is_done_later_changes_nothing_told(self):
        floor = list(SQUARE)
        told = plan_for(floor, (2, 3, 5))
        right = (list(told[0]), told[1])
        floor.clear()
        plan_for(list(STANDARD), (7, 3, 5))
        self.assertEqual(told, right)

    def test_a_refusal_changes_nothing(self):
        right = plan_for(list(SQUARE), (2, 3, 5))
        refused(self, TooMany, plan_for, list(SQUARE), (10 ** 50, 1, 3))
        self.assertEqual(plan_for(list(SQUARE), (2, 3, 5)), right)


if __name__ == "__main__":
    unittest.main()
