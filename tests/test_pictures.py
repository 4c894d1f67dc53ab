"""Point 21: two floors held against one another."""

import copy
import itertools
import random
import unittest

from chalkline.changes import both, is_change, led, undoing
from chalkline.errors import NoFloor, NoFrame, TooMany, Unlike
from chalkline.pictures import held
from chalkline.plans import walked
from helper import (
    BIG, FAR_OFF, NO_FLOORS, ROW, SQUARE, STANDARD, TIP, at_frame, first_frame, form, from_frame, in_form, refused,
    small_places, some_changes, sums, volume,
)

STAY = (1, 0, 0, 0, 1, 0, 0, 0, 1)
FAN = ROW[:5] + [TIP]
FORTY = 10 ** 40 - 1


def odd_three(one, other):
    """The first three pegs, as point 21 tells them, or None."""
    for three in itertools.combinations(range(len(one)), 3):
        if (volume(*[one[k] for k in three]) == 0) != (volume(*[other[k] for k in three]) == 0):
            return three
    return None


def some_floors(many):
    """Floors with a frame, of four to twelve pegs, the same ones at each run."""
    chance = random.Random(many)
    places = small_places(3)
    told = []
    while len(told) < many:
        floor = chance.sample(places, chance.randrange(4, 13))
        if first_frame(floor):
            told.append(floor)
    return told


def picture(change, floor):
    return [in_form(sums(change, place)) for place in floor]


class Held(unittest.TestCase):
    def told(self, one, other):
        """What is told of two floors, asked twice, with what was handed in as before."""
        handed = (list(one), list(other))
        told = held(*handed)
        self.assertEqual(handed, (one, other))
        self.assertIs(type(told), tuple)
        self.assertEqual(held(*handed), told)
        return told

    def planned(self, one, other, k):
        """That the peg k is told, with a plan held to all that point 21 says."""
        told = self.told(one, other)
        self.assertEqual((told[0], len(told), told[2]), ("plan", 3, k))
        plan = told[1]
        self.assertIs(type(plan), list)
        frame = first_frame(one)
        for deed in plan:
            if deed[0] == "line":
                self.assertTrue(all(peg in frame or peg >= len(one) for peg in deed[1:]), deed)
        here, there = walked(one, plan)[0], walked(other, plan)[0]
        self.assertGreater(len(here), len(one))
        self.assertEqual(here[-1], one[k])
        self.assertNotEqual(there[-1], other[k])
        self.assertLessEqual(len(plan), 4000)


class Changes(Held):
    def test_a_floor_with_itself(self):
        for floor in some_floors(60) + [STANDARD, SQUARE, FAR_OFF]:
            self.assertEqual(self.told(floor, floor), ("change", STAY))

    def test_a_floor_and_its_picture_either_way_about(self):
        for floor, change in zip(some_floors(150), some_changes(150, 6)):
            other = picture(change, floor)
            self.assertEqual(self.told(floor, other), ("change", change))
            self.assertEqual(self.told(other, floor), ("change", undoing(change)))

    def test_two_pictures_of_one(self):
        for floor, one, other in zip(some_floors(30), some_changes(30, 4), some_changes(31, 4)):
            kind, change = self.told(picture(one, floor), picture(other, floor))
            self.assertEqual((kind, change), ("change", both(undoing(one), other)))
            self.assertTrue(is_change(change))

    def test_any_two_floors_of_four(self):
        for one, other in [(STANDARD, SQUARE), (SQUARE, STANDARD), (SQUARE, FAR_OFF), (FAR_OFF, STANDARD), (SQUARE, SQUARE[::-1])]:
            kind, change = self.told(one, other)
            self.assertEqual(kind, "change")
            self.assertEqual([led(change, place) for place in one], other)

    def test_told_ones(self):
        shifted = [(2, 3, 1), (3, 3, 1), (2, 4, 1), (3, 4, 1), (5, 7, 2)]
        self.assertEqual(self.told(SQUARE + [(1, 1, 2)], shifted), ("change", (1, 0, 2, 0, 1, 3, 0, 0, 1)))
        self.assertEqual(self.told(shifted, SQUARE + [(1, 1, 2)]), ("change", (1, 0, -2, 0, 1, -3, 0, 0, 1)))

    def test_sixty_figures(self):
        floor = FAR_OFF + [(BIG, 3, 7), (0, BIG, 1)]
        change = form((BIG, 1, 2, 0, 3, -BIG, 5, 7, 1))
        self.assertEqual(self.told(floor, picture(change, floor)), ("change", change))

    def test_far_more_than_forty_figures_where_nothing_is_planned(self):
        floor = STANDARD + [(10 ** 55, 3, 1)]
        self.assertEqual(self.told(floor, floor), ("change", STAY))
        self.assertEqual(self.told(floor, floor[:4] + [(10 ** 55, 1, 1)]), ("line", 0, 3, 4))


class Lines(Held):
    def test_told_ones(self):
        middle = SQUARE + [(1, 1, 2)]
        self.assertEqual(self.told(middle, SQUARE + [(1, 2, 3)]), ("line", 0, 3, 4))
        self.assertEqual(self.told(SQUARE + [(1, 2, 3)], middle), ("line", 0, 3, 4))
        # Three on one line on either floor, each three on the one alone: the first three is told.
        self.assertEqual(self.told(SQUARE + [(2, 2, 1), (3, 1, 1)], SQUARE + [(2, 3, 1), (7, 7, 1)]), ("line", 0, 3, 4))
        self.assertEqual(self.told(SQUARE + [(2, 3, 1), (7, 7, 1)], SQUARE + [(2, 2, 1), (3, 1, 1)]), ("line", 0, 3, 4))

    def test_a_frame_on_one_floor_alone(self):
        for flat in [ROW[:4], ROW[:3] + [TIP], [TIP] + ROW[:3], ROW[:1] + [TIP] + ROW[1:3], [(1, 0, 0), (0, 1, 0), (1, 1, 0), (0, 0, 1)]]:
            self.assertIsNone(first_frame(flat))
            for four in [SQUARE, STANDARD, FAR_OFF]:
                right = ("line",) + odd_three(four, flat)
                self.assertEqual(self.told(four, flat), right)
                self.assertEqual(self.told(flat, four), right)
        for many in range(5, 13):
            right = ("line", 0, 1, 2)
            bent = [(k, k * k, 1) for k in range(many)]
            self.assertEqual(self.told(ROW[:many], bent), right)
            self.assertEqual(self.told(bent, ROW[:many]), right)

    def test_the_last_three(self):
        one = [(k, k * k, 1) for k in range(11)]
        side = in_form((one[9][0] + one[10][0], one[9][1] + one[10][1], 2))
        self.assertEqual(self.told(one + [side], one + [(977, 31, 13)]), ("line", 9, 10, 11))
        self.assertEqual(self.told(one + [(977, 31, 13)], one + [side]), ("line", 9, 10, 11))

    def test_many(self):
        chance = random.Random(21)
        places = small_places(2)
        kinds = {}
        for turn in range(400):
            many = chance.randrange(4, 9)
            one, other = chance.sample(places, many), chance.sample(places, many)
            if chance.randrange(2):
                other = list(one)
                other[chance.randrange(many)] = chance.choice([place for place in places if place not in one])
            if not first_frame(one) and not first_frame(other):
                refused(self, NoFrame, held, one, other)
                continue
            right = odd_three(one, other)
            if right is not None:
                self.assertEqual(self.told(one, other), ("line",) + right)
                self.assertEqual(self.told(other, one), ("line",) + right)
            else:
                self.assertIn(self.told(one, other)[0], ("change", "plan"))
            kinds[right is None] = kinds.get(right is None, 0) + 1
        self.assertGreater(min(kinds.values()), 5)


class Plans(Held):
    def test_one_peg_elsewhere(self):
        for one, other in [
            ((2, 3, 1), (2, 5, 1)), ((2, 3, 1), (3, 2, 1)), ((5, 7, 1), (5, 7, 2)), ((-5, 3, 7), (4, 9, 2)), ((2, 1, 0), (3, 1, 0)),
        ]:
            self.assertIsNone(odd_three(SQUARE + [one], SQUARE + [other]))
            self.planned(SQUARE + [one], SQUARE + [other], 4)
            self.planned(SQUARE + [other], SQUARE + [one], 4)
            self.planned([one] + SQUARE, [other] + SQUARE, 4)

    def test_on_a_line_of_the_frame_on_both(self):
        for one, other in [((2, 0, 1), (3, 0, 1)), ((-1, 0, 1), (7, 0, 2)), ((0, 5, 3), (0, 2, 1)), ((5, 5, 1), (1, 1, 3))]:
            self.planned(SQUARE + [one], SQUARE + [other], 4)
            self.planned(SQUARE + [other], SQUARE + [one], 4)

    def test_the_least_one(self):
        floor = SQUARE + [(2, 3, 1), (5, 3, 1), (-4, 9, 7), (11, -3, 2)]
        places = [(2, 5, 1), (11, 8, 3), (-7, 13, 5), (23, -4, 7)]
        for moved in itertools.chain.from_iterable(itertools.combinations(range(4), many) for many in range(1, 5)):
            other = list(floor)
            for k in moved:
                other[4 + k] = places[k]
            self.assertIsNone(odd_three(floor, other))
            self.planned(floor, other, 4 + moved[0])
            self.planned(other, floor, 4 + moved[0])

    def test_pictures_of_such_floors(self):
        floor = SQUARE + [(2, 3, 1), (5, 3, 1)]
        other = SQUARE + [(2, 3, 1), (5, 4, 1)]
        for change in some_changes(25, 5):
            self.planned(floor, picture(change, other), 5)
            self.planned(picture(change, floor), other, 5)

    def test_a_frame_that_is_not_the_first_four(self):
        floor = [(2, 0, 1)] + SQUARE + [(5, 7, 1)]
        self.assertEqual(first_frame(floor), (0, 1, 3, 4))
        # The peg 2 lies on the line of the pegs 0 and 1, and is led elsewhere along it.
        self.planned(floor, floor[:2] + [(-7, 0, 1)] + floor[3:], 2)
        self.planned(floor, floor[:5] + [(7, 9, 2)], 5)

    def test_many(self):
        chance = random.Random(22)
        planned = 0
        for floor, change in zip(some_floors(300), some_changes(300, 4)):
            other = list(floor)
            k = chance.randrange(len(floor))
            other[k] = (chance.randrange(-50, 50), chance.randrange(-50, 50), 1)
            other = picture(change, other)
            if len(set(other)) < len(other) or odd_three(floor, other):
                continue
            frame = first_frame(floor)
            four, like = [floor[n] for n in frame], [other[n] for n in frame]
            astray = [n for n in range(len(floor)) if from_frame(like, at_frame(four, floor[n])) != other[n]]
            if astray:
                self.planned(floor, other, astray[0])
                planned += 1
            else:
                self.assertEqual(self.told(floor, other)[0], "change")
        self.assertGreater(planned, 10)

    def test_forty_figures(self):
        for numbers in [(FORTY, 3, 1), (3, -FORTY, 1), (3, 1, FORTY), (FORTY, FORTY - 1, FORTY - 2)]:
            for floor in [STANDARD, SQUARE, FAR_OFF]:
                one, other = from_frame(floor, in_form(numbers)), from_frame(floor, (5, 7, 2))
                self.planned(floor + [one], floor + [other], 4)


class Refusals(unittest.TestCase):
    def test_no_floor_on_either_side(self):
        for thing in NO_FLOORS:
            with self.subTest(repr(thing)):
                for good in [SQUARE, ROW, [TIP], FAN]:
                    for pair in [(thing, good), (good, thing), (thing, thing)]:
                        with self.assertRaises(NoFloor):
                            held(*pair)

    def test_no_floor_and_all_is_as_before(self):
        for thing in [[], SQUARE + [[0, 0, 1]], [TIP, TIP], {(0, 0, 1): True}, ROW + [TIP], tuple(SQUARE)]:
            for pair in [(thing, list(SQUARE)), (list(SQUARE), thing), (thing, copy.deepcopy(thing))]:
                refused(self, NoFloor, held, *pair)

    def test_unlike(self):
        floors = [[TIP], ROW[:2], SQUARE[:3], SQUARE, SQUARE + [TIP], FAN, FAN + [(8, 1, 3)], ROW[:8], ROW]
        for one, other in itertools.permutations(floors, 2):
            if len(one) != len(other):
                refused(self, Unlike, held, list(one), list(other))

    def test_no_frame_on_either(self):
        flats = [[TIP], [(1, 0, 0)], ROW[:3], SQUARE[:3], ROW[:4], ROW[:3] + [TIP], [TIP] + ROW[:3], FAN, ROW[:6], [TIP] + ROW[:5], ROW,
                 [TIP] + ROW[:11]]
        for one, other in itertools.product(flats, repeat=2):
            if len(one) == len(other):
                refused(self, NoFrame, held, list(one), list(other))

    def test_forty_one_figures(self):
        for number in [FORTY + 1, -FORTY - 1, 10 ** 41, -(10 ** 50)]:
            for numbers in [(number, 3, 1), (3, number, 1), (number, number - 1, 1), (7, 3, abs(number))]:
                for floor in [STANDARD, SQUARE, FAR_OFF]:
                    one, other = from_frame(floor, in_form(numbers)), from_frame(floor, (5, 7, 2))
                    self.assertIsNone(odd_three(floor + [one], floor + [other]))
                    refused(self, TooMany, held, floor + [one], floor + [other])

    def test_only_the_peg_of_the_plan_is_looked_at(self):
        large = (10 ** 41, 3, 1)
        self.assertEqual(held(STANDARD + [(5, 7, 2), large], STANDARD + [(5, 8, 2), large])[2], 4)
        refused(self, TooMany, held, STANDARD + [large, (5, 7, 2)], STANDARD + [(7, 11, 2), (5, 7, 2)])


class NothingIsKept(unittest.TestCase):
    def test_a_told_plan_is_the_askers_own(self):
        one, other = SQUARE + [(2, 3, 1)], SQUARE + [(2, 5, 1)]
        told = held(one, other)
        right = copy.deepcopy(told)
        told[1].reverse()
        told[1].append("more")
        self.assertEqual(held(one, other), right)
        self.assertEqual((one, other), (SQUARE + [(2, 3, 1)], SQUARE + [(2, 5, 1)]))

    def test_what_is_done_later_changes_nothing_told(self):
        one, other = SQUARE + [(2, 3, 1)], SQUARE + [(2, 5, 1)]
        told = held(one, other)
        right = copy.deepcopy(told)
        one.clear()
        other.reverse()
        held(list(STANDARD), list(SQUARE))
        self.assertEqual(told, right)


if __name__ == "__main__":
    unittest.main()
