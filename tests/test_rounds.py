"""Points 22 and 23: what comes of a floor in rounds, and how soon a place comes."""

import copy
import itertools
import random
import unittest

from chalkline.errors import NoFloor, TooMany
from chalkline.plans import walked
from chalkline.rounds import how_soon, rounds
from helper import (
    BIG, FAR_OFF, NO_FLOORS, ROW, SQUARE, STANDARD, TIP, cross, first_frame, in_form, refused, small_places,
    some_changes, some_frames, sums,
)

FAN = ROW[:5] + [TIP]
# Floors without a frame: of them nothing comes.
FLATS = [
    [TIP], [(1, 0, 0)], ROW[:2], [(1, 0, 0), (0, 1, 0)], ROW[:3], SQUARE[:3], [(1, 0, 0), (0, 1, 0), (0, 0, 1)], ROW[:4],
    ROW[:3] + [TIP], [TIP] + ROW[:3], FAN, FAN[::-1], [(1, 0, 0), (0, 1, 0), (1, 1, 0), (0, 0, 1)], ROW, ROW[:11] + [TIP],
    [TIP] + ROW[:11],
]
# How many pegs there are of four behind each round; behind the fourth there are more than 300.
OF_FOUR = [4, 7, 13, 97]
# Floors with so many pegs in all behind the first round.
BEHIND_ONE = {
    12: [(-1, -1, 1), (-1, 2, 1), (0, -2, 1), (-1, 0, 1), (1, 0, 2)],
    13: [(-1, 0, 2), (1, 2, 1), (-1, -2, 1), (-2, -2, 1), (1, 0, 2), (0, -2, 1)],
    299: [(-2, -1, 1), (-1, -2, 2), (0, 2, 1), (-1, 2, 0), (1, 1, 1), (1, -1, 2), (1, 0, 0), (1, 0, 2), (-1, 0, 2), (1, 1, 0)],
    300: [(-1, 1, 1), (2, 1, 0), (-2, -1, 1), (0, -1, 1), (-1, 2, 1), (-1, -1, 1), (-2, 1, 1), (1, 1, 1), (0, 1, 1), (1, 0, 0),
          (1, -1, 1), (1, 2, 0)],
    301: [(1, -1, 1), (1, 0, 0), (0, 0, 1), (-1, 1, 0), (1, 2, 2), (0, 2, 1), (2, 1, 2), (-1, -2, 2), (2, -1, 2), (2, 1, 1),
          (0, -1, 2)],
    302: [(0, -1, 2), (-1, 0, 1), (1, 2, 2), (-1, 2, 0), (2, 1, 1), (-1, 0, 2), (-1, -1, 2), (-2, -1, 1), (2, -2, 1)],
}
# Floors with so many pegs in all behind the second round.
BEHIND_TWO = {
    13: [(1, 1, 0), (0, 1, 0), (-1, 1, 0), (-1, -1, 1), (1, 1, 1)],
    25: [(1, -1, 1), (0, 1, 0), (1, 1, 0), (1, 0, 1), (0, -1, 1), (1, 0, 0)],
    85: [(0, 1, 0), (-1, 1, 0), (1, 0, 0), (0, 0, 1), (0, -1, 1), (0, 1, 1)],
    191: [(1, 0, 1), (1, 0, 0), (-1, 1, 1), (1, 1, 1), (0, -1, 1)],
    207: [(1, 1, 2), (-1, 1, 1), (-2, -1, 2), (1, 0, 2), (-1, 2, 1)],
}


def next_round(pegs):
    """What comes of a set of pegs in a round, by sets."""
    lines = {in_form(cross(*pair)) for pair in itertools.combinations(pegs, 2)}
    return {in_form(cross(*pair)) for pair in itertools.combinations(lines, 2)} - pegs


def all_rounds(floor, many):
    """What comes of a floor in so many rounds, as point 22 tells it."""
    pegs = set(floor)
    told = []
    for turn in range(many):
        fresh = next_round(pegs)
        told.append(sorted(fresh))
        pegs |= fresh
    return told


def some_floors(many, pegs, most):
    """Floors of so many pegs of numbers up to most, the same ones at each run."""
    chance = random.Random(many)
    return [chance.sample(small_places(most), pegs) for turn in range(many)]


class Rounds(unittest.TestCase):
    def told(self, floor, many, most):
        """What is told of a floor, asked twice, with the floor as before."""
        handed = list(floor)
        told = rounds(handed, many, most)
        self.assertEqual(handed, floor)
        self.assertIs(type(told), list)
        self.assertTrue(all(type(places) is list for places in told))
        self.assertEqual(rounds(handed, many, most), told)
        return told

    def test_nothing_comes_without_a_frame(self):
        for floor in FLATS:
            self.assertIsNone(first_frame(floor))
            for many in range(7):
                for most in (12, 13, 300):
                    self.assertEqual(self.told(floor, many, most), [[]] * many)

    def test_the_square(self):
        first = [(0, 1, 0), (1, 0, 0), (1, 1, 2)]
        second = [(-1, 1, 0), (0, 1, 2), (1, 0, 2), (1, 1, 0), (1, 2, 2), (2, 1, 2)]
        self.assertEqual(self.told(SQUARE, 0, 12), [])
        self.assertEqual(self.told(SQUARE, 1, 12), [first])
        self.assertEqual(self.told(SQUARE, 2, 13), [first, second])
        self.assertEqual([len(places) for places in self.told(SQUARE, 3, 300)], [3, 6, 84])

    def test_each_four_has_as_many(self):
        for four in [STANDARD, SQUARE, SQUARE[::-1], FAR_OFF] + some_frames(12):
            told = self.told(four, 3, 97)
            self.assertEqual([len(places) for places in told], [3, 6, 84])
            self.assertEqual(told, all_rounds(four, 3))
            for many in range(3):
                self.assertEqual(self.told(four, many, 97), told[:many])

    def test_floors_of_five_and_six(self):
        for floor in some_floors(12, 5, 1) + some_floors(13, 5, 3) + some_floors(14, 6, 2):
            told = all_rounds(floor, 1)
            self.assertEqual(self.told(floor, 1, 300), told)
        for total, floor in BEHIND_TWO.items():
            told = all_rounds(floor, 2)
            self.assertEqual(len(floor) + sum(map(len, told)), total)
            self.assertEqual(self.told(floor, 2, 300), told)
            self.assertEqual(self.told(floor, 1, 300), told[:1])

    def test_floors_of_many_pegs(self):
        for total, floor in BEHIND_ONE.items():
            told = all_rounds(floor, 1)
            self.assertEqual(len(floor) + len(told[0]), total)
            self.assertEqual(self.told(floor, 1, total), told)

    def test_the_order_of_pegs_changes_nothing(self):
        floor = BEHIND_TWO[25]
        told = rounds(floor, 2, 25)
        for turn in itertools.islice(itertools.permutations(floor), 0, 720, 7):
            self.assertEqual(self.told(list(turn), 2, 25), told)

    def test_what_comes_of_a_picture(self):
        for change in some_changes(10, 4):
            for floor in [STANDARD, BEHIND_TWO[25], BEHIND_TWO[13]]:
                like = [in_form(sums(change, place)) for place in floor]
                right = [sorted(in_form(sums(change, place)) for place in places) for places in rounds(floor, 2, 25)]
                self.assertEqual(self.told(like, 2, 25), right)

    def test_sixty_figures(self):
        floor = FAR_OFF + [(BIG, 3, 7)]
        self.assertEqual(self.told(floor, 1, 20), all_rounds(floor, 1))
        refused(self, TooMany, rounds, floor, 1, 19)
        refused(self, TooMany, rounds, floor, 2, 300)
        refused(self, TooMany, rounds, list(FAR_OFF), 6, 300)


class TooManyPegs(unittest.TestCase):
    def test_in_the_first_round(self):
        for total, floor in BEHIND_ONE.items():
            for most in [total - 1, total - 2, 12]:
                if most < total:
                    refused(self, TooMany, rounds, floor, 1, most)
            for most in [total, total + 1, 302]:
                self.assertEqual(len(rounds(floor, 1, most)), 1)

    def test_the_least_and_the_most_that_are_let(self):
        self.assertEqual(len(rounds(BEHIND_ONE[12], 1, 12)[0]), 7)
        refused(self, TooMany, rounds, BEHIND_ONE[13], 1, 12)
        self.assertEqual(len(rounds(BEHIND_ONE[300], 1, 300)[0]), 288)
        refused(self, TooMany, rounds, BEHIND_ONE[301], 1, 300)

    def test_in_a_later_round(self):
        for four in [STANDARD, SQUARE, FAR_OFF]:
            for many in range(1, 4):
                for most in [12, 13, 14, 96, 97, 98, 300]:
                    if OF_FOUR[many] > most:
                        refused(self, TooMany, rounds, list(four), many, most)
                    else:
                        self.assertEqual(len(rounds(four, many, most)), many)
            for many in range(4, 7):
                for most in [12, 97, 300]:
                    refused(self, TooMany, rounds, list(four), many, most)
        for total, floor in BEHIND_TWO.items():
            refused(self, TooMany, rounds, floor, 2, total - 1)
            self.assertEqual(len(rounds(floor, 2, total)), 2)
            self.assertEqual(len(rounds(floor, 1, total - 1)), 1)

    def test_not_in_no_round(self):
        for floor in [SQUARE, FAR_OFF, BEHIND_ONE[300], BEHIND_ONE[301], FAN, ROW]:
            self.assertEqual(rounds(floor, 0, 12), [])

    def test_the_floors_own_pegs_count(self):
        for many in range(4):
            refused(self, TooMany, rounds, list(ROW), many, 11)
            refused(self, TooMany, rounds, list(FAN), many, 5)
            self.assertEqual(rounds(FAN, many, 6), [[]] * many)


class HowSoon(unittest.TestCase):
    def told(self, floor, place, many, most):
        handed = list(floor)
        told = how_soon(handed, place, many, most)
        self.assertEqual(handed, floor)
        self.assertEqual(how_soon(handed, place, many, most), told)
        return told

    def comes(self, floor, place, number, many, most, ahead):
        """That a place comes in this round, with a plan held to all that point 23 says."""
        told = self.told(floor, place, many, most)
        self.assertIs(type(told), tuple)
        self.assertEqual((len(told), told[0]), (2, number))
        plan = told[1]
        self.assertIs(type(plan), list)
        pegs = walked(floor, plan)[0]
        self.assertGreater(len(pegs), len(floor))
        self.assertEqual(pegs[-1], place)
        self.assertEqual(plan[-1][0], "peg")
        early = set(floor).union(*ahead[:number - 1])
        self.assertTrue(all(peg in early for peg in pegs[:-1]))

    def test_a_pegs_place(self):
        for floor in FLATS + [SQUARE, FAR_OFF, BEHIND_ONE[301]]:
            for peg in floor:
                for many in (0, 1, 6):
                    for most in (12, 300):
                        self.assertEqual(self.told(floor, peg, many, most), (0, []))

    def test_each_place_that_comes_of_four(self):
        for four in [STANDARD, SQUARE, FAR_OFF] + some_frames(3):
            ahead = all_rounds(four, 3)
            for number, places in enumerate(ahead, 1):
                for place in places:
                    self.comes(four, place, number, 3, 97, ahead)

    def test_each_place_that_comes_of_five_and_six(self):
        for total, floor in BEHIND_TWO.items():
            ahead = all_rounds(floor, 2)
            for number, places in enumerate(ahead, 1):
                for place in places[::3] + places[-1:]:
                    self.comes(floor, place, number, 2, total, ahead)

    def test_of_many_pegs(self):
        for total, floor in BEHIND_ONE.items():
            ahead = all_rounds(floor, 1)
            for place in ahead[0][::17]:
                self.comes(floor, place, 1, 1, total, ahead)

    def test_the_same_round_as_by_rounds(self):
        told = rounds(SQUARE, 3, 97)
        for place in small_places(3):
            right = next((number for number, places in enumerate([SQUARE] + told) if place in places), None)
            for many in range(4):
                soon = self.told(SQUARE, place, many, 97)
                if right is None or right > many:
                    self.assertIsNone(soon)
                else:
                    self.assertEqual(soon[0], right)

    def test_what_never_comes(self):
        for floor in FLATS:
            for place in [(7, 11, 13), (2, 1, 0), (BIG, 1, 1), (13, 0, 1)]:
                self.assertNotIn(place, floor)
                for many in range(7):
                    self.assertIsNone(self.told(floor, place, many, 12))

    def test_what_comes_only_behind_them(self):
        first, second, third = [places[0] for places in all_rounds(SQUARE, 3)]
        for place, number in [(first, 1), (second, 2), (third, 3)]:
            for many in range(number):
                self.assertIsNone(self.told(SQUARE, place, many, 97))
            self.assertEqual(self.told(SQUARE, place, number, 97)[0], number)
        self.assertIsNone(self.told(SQUARE, (BIG, 3, 1), 3, 97))

    def test_no_round(self):
        for floor in [SQUARE, STANDARD, FAN, ROW, BEHIND_ONE[301]]:
            self.assertIsNone(self.told(floor, (7, 11, 13), 0, 12))

    def test_too_many(self):
        ahead = all_rounds(SQUARE, 3)
        for most, done in [(12, 1), (13, 2), (96, 2), (97, 3), (300, 3)]:
            for number, places in enumerate(ahead, 1):
                place = places[-1]
                for many in range(7):
                    if number <= done and number <= many:
                        # What is put in a round ahead is told, whatever comes behind it.
                        self.comes(SQUARE, place, number, many, most, ahead)
                    elif many > done:
                        # Also where it would come in that very round.
                        refused(self, TooMany, how_soon, list(SQUARE), place, many, most)
                    else:
                        self.assertIsNone(self.told(SQUARE, place, many, most))
            refused(self, TooMany, how_soon, list(SQUARE), (BIG, 1, 1), done + 1, most)

    def test_too_many_in_the_first_round(self):
        for total, floor in BEHIND_ONE.items():
            place = all_rounds(floor, 1)[0][0]
            refused(self, TooMany, how_soon, floor, place, 1, total - 1)
            refused(self, TooMany, how_soon, floor, (BIG, 1, 1), 1, total - 1)
            self.assertEqual(how_soon(floor, place, 1, total)[0], 1)
            self.assertEqual(how_soon(floor, floor[-1], 1, total - 1), (0, []))

    def test_the_floors_own_pegs_count(self):
        for many in range(3):
            refused(self, TooMany, how_soon, list(ROW), TIP, many, 11)
            self.assertEqual(how_soon(ROW, ROW[5], many, 11), (0, []))
            self.assertIsNone(how_soon(ROW, TIP, many, 12))

    def test_a_plan_puts_no_more_than_it_needs(self):
        for place in rounds(SQUARE, 1, 12)[0]:
            self.assertEqual(len(how_soon(SQUARE, place, 1, 12)[1]), 3)
        for place in itertools.chain.from_iterable(rounds(SQUARE, 3, 97)):
            plan = how_soon(SQUARE, place, 3, 97)[1]
            used = {peg for deed in plan if deed[0] == "line" for peg in deed[1:]}
            last = len(walked(SQUARE, plan)[0]) - 1
            self.assertTrue(used >= set(range(4, last)), plan)


class NoFloors(unittest.TestCase):
    def test_ahead_of_all_else(self):
        for thing in NO_FLOORS:
            with self.subTest(repr(thing)):
                for many, most in [(0, 12), (1, 12), (6, 300)]:
                    with self.assertRaises(NoFloor):
                        rounds(thing, many, most)
                    for place in [(0, 0, 1), TIP]:
                        with self.assertRaises(NoFloor):
                            how_soon(thing, place, many, most)

    def test_all_is_as_before(self):
        for thing in [[], SQUARE + [[0, 0, 1]], [TIP, TIP], {(0, 0, 1): True}, ROW + [TIP], tuple(SQUARE)]:
            refused(self, NoFloor, rounds, thing, 1, 12)
            refused(self, NoFloor, how_soon, thing, (0, 0, 1), 1, 12)


class NothingIsKept(unittest.TestCase):
    def test_told_lists_are_the_askers_own(self):
        floor = list(SQUARE)
        told = rounds(floor, 3, 97)
        right = copy.deepcopy(told)
        told[0].clear()
        told[1].append("more")
        told.reverse()
        self.assertEqual(rounds(floor, 3, 97), right)
        empty = rounds(ROW, 3, 12)
        empty[0].append("more")
        self.assertEqual(empty, [["more"], [], []])
        self.assertEqual(rounds(ROW, 3, 12), [[], [], []])

    def test_told_plans_are_the_askers_own(self):
        for place in [SQUARE[1], (1, 1, 2), (1, 2, 2)]:
            told = how_soon(SQUARE, place, 2, 13)
            right = copy.deepcopy(told)
            told[1].append("more")
            told[1].reverse()
            self.assertEqual(how_soon(SQUARE, place, 2, 13), right)

    def test_what_is_done_later_changes_nothing_told(self):
        floor = list(SQUARE)
        told, soon = rounds(floor, 2, 13), how_soon(floor, (1, 2, 2), 2, 13)
        right = copy.deepcopy((told, soon))
        floor.clear()
        rounds(STANDARD, 3, 97)
        self.assertEqual((told, soon), right)

    def test_what_was_asked_ahead_changes_nothing(self):
        alone = rounds(STANDARD, 2, 13)
        rounds(SQUARE, 3, 97)
        refused(self, TooMany, rounds, list(STANDARD), 3, 13)
        self.assertEqual(rounds(STANDARD, 2, 13), alone)


if __name__ == "__main__":
    unittest.main()
