"""Points 7, 8 and 9: floors, their kinds, and what comes of them."""

import copy
import itertools
import random
import unittest

from chalkline.errors import Endless, NoFloor
from chalkline.floors import comes, frame_of, is_floor, kind_of, look_at
from helper import (
    BIG, BIGGEST, NO_FLOORS, NO_MEMBERS, ROW, SQUARE, TIP, cross, first_frame, in_form, small_places, volume,
)


def in_line(one, other, third):
    return volume(one, other, third) == 0


def all_in_line(places):
    return all(in_line(*three) for three in itertools.combinations(places, 3))


def all_that_comes(floor):
    """Point 9 by its words: deeds are done until nothing new comes."""
    places = set(floor)
    lines = set()
    while True:
        more_lines = {in_form(cross(one, other)) for one, other in itertools.combinations(places, 2)}
        more_places = {in_form(cross(one, other)) for one, other in itertools.combinations(more_lines, 2)}
        if more_lines <= lines and more_places <= places:
            return (sorted(places), sorted(lines))
        lines |= more_lines
        places |= more_places


def some_floors():
    """Floors of all kinds, the same ones at each run."""
    chance = random.Random(11)
    places = small_places(2)
    floors = []
    for many in range(1, 13):
        for turn in range(40):
            floors.append(chance.sample(places, many))
    for many in range(1, 13):
        for turn in range(12):
            row = chance.sample(ROW, many)
            floors.append(list(row))
            if many > 1:
                row[chance.randrange(many)] = TIP
                floors.append(row)
            if many > 2:
                row = list(row)
                row[chance.randrange(many)] = (7, -2, 3)
                floors.append(row)
    return floors


class IsFloor(unittest.TestCase):
    def test_floors(self):
        for floor in [[TIP], [(1, 0, 0), (0, 1, 0)], SQUARE, ROW[:11], ROW, ROW[:11] + [TIP], [(BIG, -BIG, 1)]]:
            with self.subTest(floor):
                self.assertIs(is_floor(floor), True)
                self.assertIsNone(look_at(floor))

    def test_one_and_twelve_pegs_but_not_none_and_thirteen(self):
        self.assertEqual(len(ROW), 12)
        places = ROW + [TIP]
        for many in range(14):
            with self.subTest(many):
                self.assertIs(is_floor(places[:many]), 1 <= many <= 12)

    def test_a_peg_twice(self):
        for one, other in itertools.combinations(range(5), 2):
            floor = ROW[:5]
            floor[other] = floor[one]
            with self.subTest(floor):
                self.assertIs(is_floor(floor), False)
        self.assertIs(is_floor(ROW[:11] + ROW[:1]), False)

    def test_what_is_none(self):
        for thing in NO_FLOORS:
            with self.subTest(repr(thing)):
                self.assertIs(is_floor(thing), False)

    def test_members_that_are_no_places(self):
        for member in NO_MEMBERS:
            for floor in [[member], [member] + SQUARE, SQUARE + [member], SQUARE[:2] + [member] + SQUARE[2:]]:
                with self.subTest(repr(floor)):
                    self.assertIs(is_floor(floor), False)


class NoFloorIsRefused(unittest.TestCase):
    def test_everywhere(self):
        for asked in [look_at, frame_of, kind_of, comes]:
            for thing in NO_FLOORS:
                with self.subTest(asked=asked.__name__, thing=repr(thing)):
                    with self.assertRaises(NoFloor):
                        asked(thing)

    def test_behind_a_refusal_all_is_as_before(self):
        for asked in [look_at, frame_of, kind_of, comes]:
            for thing in [[], SQUARE + [[0, 0, 1]], [TIP, TIP], {(0, 0, 1): True}, ROW + [TIP]]:
                before = copy.deepcopy(thing)
                with self.assertRaises(NoFloor):
                    asked(thing)
                self.assertEqual(thing, before)


class FrameOf(unittest.TestCase):
    def test_told_ones(self):
        self.assertEqual(frame_of(SQUARE), (0, 1, 2, 3))
        self.assertEqual(frame_of([(2, 0, 1)] + SQUARE), (0, 1, 3, 4))
        self.assertEqual(frame_of([(1, 0, 0), (0, 1, 0), (0, 0, 1), (1, 1, 1)]), (0, 1, 2, 3))
        self.assertEqual(frame_of([(0, 0, 1), (1, 0, 1), (2, 0, 1), (0, 1, 1), (1, 1, 1)]), (0, 1, 3, 4))

    def test_the_first_as_tuples_are_compared(self):
        # The pegs 0, 1, 2 make no frame with 3, 4 or 5, which lie on their sides; nor do 0, 1, 3.
        floor = [(0, 0, 1), (4, 0, 1), (0, 4, 1), (1, 0, 1), (0, 1, 1), (2, 2, 1)]
        self.assertEqual(frame_of(floor), (0, 1, 4, 5))
        # The pegs 0, 1, 2 are a frame with the last one alone.
        floor = [(0, 0, 1), (1, 0, 1), (0, 1, 1), (2, 0, 1), (3, 0, 1), (5, 7, 1)]
        self.assertEqual(frame_of(floor), (0, 1, 2, 5))

    def test_the_last_four_alone(self):
        floor = ROW[:10] + [(0, 1, 1), (2, 3, 1)]
        self.assertEqual(frame_of(floor), first_frame(floor))
        self.assertEqual(frame_of(floor)[2:], (10, 11))

    def test_none(self):
        for floor in [[TIP], ROW[:2], ROW[:3], ROW, SQUARE[:3], ROW[:3] + [TIP], [TIP] + ROW[:11]]:
            with self.subTest(floor):
                self.assertIsNone(frame_of(floor))

    def test_four_of_which_three_lie_on_one_line(self):
        for three in itertools.combinations(range(4), 3):
            floor = list(SQUARE)
            floor[three[2]] = {
                (0, 1, 2): (2, 0, 1), (0, 1, 3): (2, 0, 1), (0, 2, 3): (0, 2, 1), (1, 2, 3): (3, -2, 1),
            }[three]
            self.assertTrue(in_line(*[floor[k] for k in three]))
            self.assertIsNone(frame_of(floor))

    def test_by_the_words(self):
        for floor in some_floors():
            told = frame_of(floor)
            self.assertEqual(told, first_frame(floor), floor)
            self.assertIn(type(told), (tuple, type(None)))

    def test_sixty_figures(self):
        floor = [(BIG, 0, 1), (0, BIG, 1), (BIGGEST, BIGGEST, 1), (-BIG, 1 - BIGGEST, BIG + 1)]
        floor = [in_form(place) for place in floor]
        self.assertEqual(frame_of(floor), (0, 1, 2, 3))
        floor[3] = in_form((BIG + BIGGEST, BIGGEST, 2))
        self.assertTrue(in_line(floor[0], floor[2], floor[3]))
        self.assertIsNone(frame_of(floor))


class KindOf(unittest.TestCase):
    def test_line(self):
        for floor in [[TIP], [(1, 0, 0)], ROW[:2], ROW[:3], ROW, [(1, 0, 0), (0, 1, 0), (-4, 3, 0)]]:
            with self.subTest(floor):
                self.assertEqual(kind_of(floor), ("line",))

    def test_fan(self):
        for many in range(3, 12):
            for at in range(many + 1):
                with self.subTest(many=many, at=at):
                    self.assertEqual(kind_of(ROW[:at] + [TIP] + ROW[at:many]), ("fan", at))

    def test_fan_with_the_least_number(self):
        for three in itertools.permutations(SQUARE, 3):
            self.assertEqual(kind_of(list(three)), ("fan", 0))
        self.assertEqual(kind_of([(1, 0, 0), (0, 1, 0), (0, 0, 1)]), ("fan", 0))

    def test_frame(self):
        self.assertEqual(kind_of(SQUARE), ("frame", (0, 1, 2, 3)))
        self.assertEqual(kind_of(ROW[:3] + SQUARE[2:]), ("frame", (0, 1, 3, 4)))

    def test_by_the_words(self):
        for floor in some_floors():
            frame = first_frame(floor)
            if frame is not None:
                right = ("frame", frame)
            elif all_in_line(floor):
                right = ("line",)
            else:
                right = ("fan", next(k for k in range(len(floor)) if all_in_line(floor[:k] + floor[k + 1:])))
            self.assertEqual(kind_of(floor), right, floor)


class Comes(unittest.TestCase):
    def test_one_peg(self):
        self.assertEqual(comes([TIP]), ([TIP], []))

    def test_two_pegs(self):
        self.assertEqual(comes([(1, 0, 1), (0, 0, 1)]), ([(0, 0, 1), (1, 0, 1)], [(0, 1, 0)]))

    def test_three_pegs(self):
        self.assertEqual(
            comes([(0, 1, 1), (0, 0, 1), (1, 0, 1)]),
            ([(0, 0, 1), (0, 1, 1), (1, 0, 1)], [(-1, -1, 1), (0, 1, 0), (1, 0, 0)]),
        )

    def test_lines_of_one_to_twelve_pegs(self):
        for many in range(1, 13):
            for floor in [ROW[:many], ROW[:many][::-1]]:
                with self.subTest(floor):
                    self.assertEqual(comes(floor), (sorted(floor), [(0, 1, 0)] if many > 1 else []))
                    self.assertEqual(comes(floor), all_that_comes(floor))

    def test_fans_of_three_to_twelve_pegs(self):
        for many in range(2, 12):
            for at in range(many + 1):
                floor = ROW[:at] + [TIP] + ROW[at:many]
                with self.subTest(floor):
                    places, lines = comes(floor)
                    self.assertEqual((places, lines), all_that_comes(floor))
                    self.assertEqual(len(lines), many + 1)

    def test_kinds(self):
        told = comes(ROW[:2] + [TIP])
        self.assertEqual([type(thing) for thing in (told,) + told], [tuple, list, list])

    def test_by_the_words(self):
        told = 0
        for floor in some_floors():
            if first_frame(floor) is None:
                self.assertEqual(comes(floor), all_that_comes(floor), floor)
                told += 1
        self.assertGreater(told, 300)

    def test_endless(self):
        for floor in [SQUARE, SQUARE[::-1], ROW[:10] + [TIP, (0, 9, 1)], ROW[:2] + [TIP, (0, 9, 1)]]:
            before = copy.deepcopy(floor)
            with self.subTest(floor):
                with self.assertRaises(Endless):
                    comes(floor)
                self.assertEqual(floor, before)

    def test_just_one_is_told_of_every_floor(self):
        for floor in some_floors():
            if kind_of(floor)[0] == "frame":
                with self.assertRaises(Endless):
                    comes(floor)
            else:
                self.assertEqual(comes(floor)[0], sorted(floor))


class NothingIsKept(unittest.TestCase):
    def test_the_floor_is_as_before(self):
        for floor in [[TIP], ROW[::-1], [TIP] + ROW[:5], SQUARE]:
            before = copy.deepcopy(floor)
            for asked in [is_floor, look_at, frame_of, kind_of]:
                asked(floor)
                self.assertEqual(floor, before)
        floor = ROW[:5][::-1] + [TIP]
        before = copy.deepcopy(floor)
        comes(floor)
        self.assertEqual(floor, before)

    def test_told_lists_are_the_askers_own(self):
        for floor in [[TIP], sorted(ROW), [TIP] + ROW[:5]]:
            before = copy.deepcopy(floor)
            right = copy.deepcopy(comes(floor))
            told = comes(floor)
            told[0].append((9, 9, 1))
            told[1].clear()
            self.assertEqual(floor, before)
            self.assertEqual(comes(floor), right)
            told[0].clear()
            told[1].append(None)
            self.assertEqual(floor, before)
            self.assertEqual(comes(floor), right)

    def test_a_floor_that_changes_later_changes_nothing_told(self):
        floor = ROW[:4] + [TIP]
        told = comes(floor)
        right = copy.deepcopy(told)
        floor.clear()
        self.assertEqual(told, right)
        floor.extend(SQUARE)
        self.assertEqual(kind_of(floor), ("frame", (0, 1, 2, 3)))


if __name__ == "__main__":
    unittest.main()
