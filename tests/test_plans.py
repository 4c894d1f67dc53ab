"""Point 10: plans, walked."""

import copy
import itertools
import unittest
from fractions import Fraction

from chalkline.errors import ChalkError, NoDeed, Same
from chalkline.places import crossing, through
from chalkline.plans import walked
from helper import BIG, SQUARE

MIDDLE = [("line", 0, 3), ("line", 1, 2), ("peg", 0, 1)]
NO_DEEDS = [
    None, True, False, 0, 1, -1, 1.5, Fraction(1, 2), "", "line", "line 0 1", "peg", b"line", object(), len, int,
    (), ("line",), ("line", 0), ("line", 0, 1, 2), ("line", 0, 1, None), (0, 1), (0, 1, "line"), (0, "line", 1),
    ["line", 0, 1], ["peg", 0, 1], [], {}, {"line": (0, 1)}, {"line", 0, 1}, {0: "line", 1: 0, 2: 1}, range(3),
    ("Line", 0, 1), ("LINE", 0, 1), ("lines", 0, 1), ("", 0, 1), (" line", 0, 1), ("pegs", 0, 1), ("cross", 0, 1),
    (b"line", 0, 1), (None, 0, 1), (0, 0, 1), (True, 0, 1), (["line"], 0, 1), (("line",), 0, 1), ({"line"}, 0, 1),
    ("line", True, 2), ("line", False, 2), ("line", 2, True), ("line", 2, False), ("peg", False, 1), ("peg", 0, True),
    ("line", None, 1), ("line", 0, None), ("line", "0", 1), ("line", 0, "1"), ("line", 0.0, 1), ("line", 0, 1.0),
    ("line", Fraction(0), 1), ("line", [0], 1), ("line", 0, (1,)), ("line", {}, 1), ("peg", 0.0, 1), ("peg", "0", "1"),
    ("peg", 0, None), ("peg", [], 1), ("line", (0, 1)), ("peg", (0, 1)), (("line", 0, 1),), [("line", 0, 1)],
]


class Walked(unittest.TestCase):
    def refused(self, places, plan, error, at):
        """The refusal, its value at, and that all is as before behind it."""
        places_before, plan_before = list(places), list(plan)
        with self.assertRaises(ChalkError) as told:
            walked(places, plan)
        self.assertIs(type(told.exception), error)
        self.assertEqual(told.exception.at, at)
        self.assertIs(type(told.exception.at), int)
        self.assertEqual(places, places_before)
        self.assertEqual(len(plan), len(plan_before))
        for thing, before in zip(plan, plan_before):
            self.assertIs(thing, before)


class GoodPlans(Walked):
    def test_the_plan_without_deeds(self):
        for places in [[], [(1, 0, 0)], SQUARE, [(1, 1, 1), (1, 1, 1)]]:
            with self.subTest(places):
                self.assertEqual(walked(places, []), (places, []))

    def test_the_middle_of_a_square(self):
        self.assertEqual(walked(SQUARE, MIDDLE), (SQUARE + [(1, 1, 2)], [(-1, 1, 0), (-1, -1, 1)]))

    def test_kinds(self):
        for plan in [[], MIDDLE]:
            told = walked(SQUARE, plan)
            self.assertEqual([type(thing) for thing in (told,) + told], [tuple, list, list])

    def test_lines_alone(self):
        plan = [("line", 0, 1), ("line", 1, 0), ("line", 3, 0)]
        self.assertEqual(walked(SQUARE, plan), (SQUARE, [(0, 1, 0), (0, 1, 0), (-1, 1, 0)]))

    def test_a_far_place(self):
        plan = [("line", 0, 1), ("line", 2, 3), ("peg", 0, 1), ("line", 0, 2), ("line", 1, 3), ("peg", 3, 2),
                ("line", 4, 5)]
        self.assertEqual(walked(SQUARE, plan), (
            SQUARE + [(1, 0, 0), (0, 1, 0)],
            [(0, 1, 0), (0, -1, 1), (1, 0, 0), (-1, 0, 1), (0, 0, 1)],
        ))

    def test_new_pegs_have_the_next_numbers(self):
        plan = MIDDLE + [
            ("line", 0, 1), ("line", 2, 3), ("peg", 2, 3),
            ("line", 4, 5), ("line", 1, 3), ("peg", 4, 5),
        ]
        pegs, lines = walked(SQUARE, plan)
        self.assertEqual(pegs, SQUARE + [(1, 1, 2), (1, 0, 0), (2, 1, 2)])
        self.assertEqual(lines, [(-1, 1, 0), (-1, -1, 1), (0, 1, 0), (0, -1, 1), (0, -2, 1), (-1, 0, 1)])

    def test_a_peg_may_be_put_where_one_stands(self):
        plan = [("line", 0, 1), ("line", 0, 2), ("peg", 0, 1), ("peg", 1, 0)]
        self.assertEqual(walked(SQUARE, plan), (SQUARE + [(0, 0, 1), (0, 0, 1)], [(0, 1, 0), (1, 0, 0)]))

    def test_places_of_which_some_are_alike(self):
        places = [(0, 0, 1), (0, 0, 1), (1, 0, 1), (1, 0, 1), (0, 1, 1)]
        plan = [("line", 0, 2), ("line", 1, 3), ("line", 1, 4), ("peg", 1, 2)]
        self.assertEqual(walked(places, plan), (places + [(0, 0, 1)], [(0, 1, 0), (0, 1, 0), (1, 0, 0)]))

    def test_more_places_than_a_floor_has(self):
        places = [(k, k * k, 1) for k in range(40)]
        plan = [("line", 0, 39), ("line", 20, 38), ("peg", 0, 1), ("line", 40, 1)]
        pegs, lines = walked(places, plan)
        first, second = through(places[0], places[39]), through(places[20], places[38])
        self.assertEqual(pegs, places + [crossing(first, second)])
        self.assertEqual(lines, [first, second, through(pegs[40], places[1])])

    def test_the_first_and_the_last_number(self):
        for one, other in itertools.permutations(range(4), 2):
            self.assertEqual(walked(SQUARE, [("line", one, other)])[1], [through(SQUARE[one], SQUARE[other])])

    def test_sixty_figures(self):
        places = [(BIG, 0, 1), (0, BIG, 1), (-BIG, 1, BIG + 1), (1, 1, 1)]
        pegs, lines = walked(places, MIDDLE)
        self.assertEqual(lines, [through(places[0], places[3]), through(places[1], places[2])])
        self.assertEqual(pegs, places + [crossing(*lines)])

    def test_a_long_plan(self):
        plan = []
        for turn in range(4000):
            plan += [("line", 0, 3), ("line", 1, 2), ("peg", 2 * turn, 2 * turn + 1)]
        pegs, lines = walked(SQUARE, plan)
        self.assertEqual(pegs, SQUARE + [(1, 1, 2)] * 4000)
        self.assertEqual(lines, [(-1, 1, 0), (-1, -1, 1)] * 4000)


class NoDeeds(Walked):
    def test_things_that_are_no_deed(self):
        for thing in NO_DEEDS:
            with self.subTest(repr(thing)):
                self.refused(SQUARE, [thing], NoDeed, 0)
                self.refused(SQUARE, [thing] + MIDDLE, NoDeed, 0)
                self.refused(SQUARE, MIDDLE + [thing], NoDeed, 3)
                self.refused(SQUARE, MIDDLE[:1] + [thing] + MIDDLE[1:], NoDeed, 1)

    def test_pegs_that_are_not_there(self):
        for number in [4, 5, 12, BIG, -1, -2, -4, -5, -BIG]:
            with self.subTest(number):
                self.refused(SQUARE, [("line", 0, number)], NoDeed, 0)
                self.refused(SQUARE, [("line", number, 0)], NoDeed, 0)
                self.refused(SQUARE, [("line", 1, 0), ("line", number, 0)], NoDeed, 1)

    def test_lines_that_are_not_there(self):
        for number in [2, 3, 4, BIG, -1, -2, -3, -BIG]:
            with self.subTest(number):
                self.refused(SQUARE, MIDDLE[:2] + [("peg", 0, number)], NoDeed, 2)
                self.refused(SQUARE, MIDDLE[:2] + [("peg", number, 1)], NoDeed, 2)
        self.refused(SQUARE, [("peg", 0, 1)], NoDeed, 0)
        self.refused(SQUARE, [("line", 0, 1), ("peg", 0, 1), ("line", 2, 3)], NoDeed, 1)

    def test_a_number_that_comes_only_later(self):
        self.refused(SQUARE, [("line", 0, 4)] + MIDDLE, NoDeed, 0)
        self.refused(SQUARE, MIDDLE[:2] + [("line", 0, 4), ("peg", 0, 1)], NoDeed, 2)
        self.refused(SQUARE, MIDDLE + [("line", 4, 5)], NoDeed, 3)
        self.assertEqual(walked(SQUARE, MIDDLE + [("line", 4, 1)])[1][2], (-1, -1, 1))

    def test_no_pegs_at_all(self):
        self.refused([], [("line", 0, 1)], NoDeed, 0)
        self.refused([], [("line", 0, 0)], NoDeed, 0)
        self.refused([(0, 0, 1)], [("line", 0, 1)], NoDeed, 0)


class AlikeOnes(Walked):
    def test_one_number_twice(self):
        self.refused(SQUARE, [("line", 0, 0)], Same, 0)
        self.refused(SQUARE, [("line", 0, 1), ("line", 3, 3)], Same, 1)
        self.refused(SQUARE, [("line", 0, 1), ("peg", 0, 0)], Same, 1)
        self.refused(SQUARE, MIDDLE + [("line", 4, 4)], Same, 3)

    def test_two_numbers_at_one_place(self):
        places = SQUARE + [(0, 0, 1)]
        self.refused(places, [("line", 0, 4)], Same, 0)
        self.refused(places, [("line", 4, 1), ("line", 4, 0)], Same, 1)
        plan = [("line", 0, 1), ("line", 0, 2), ("peg", 0, 1), ("line", 4, 0)]
        self.refused(SQUARE, plan, Same, 3)

    def test_two_lines_alike(self):
        self.refused(SQUARE, [("line", 0, 1), ("line", 1, 0), ("peg", 0, 1)], Same, 2)
        self.refused(SQUARE, MIDDLE + [("line", 0, 4), ("peg", 2, 0)], Same, 4)


class TheFirstDeed(Walked):
    def test_the_first_of_both(self):
        self.refused(SQUARE, [("line", 0, 0), None], Same, 0)
        self.refused(SQUARE, [None, ("line", 0, 0)], NoDeed, 0)
        self.refused(SQUARE, MIDDLE + [("line", 2, 2), ("line", 0, 99), "x"], Same, 3)
        self.refused(SQUARE, MIDDLE + [("line", 0, 99), ("line", 2, 2)], NoDeed, 3)
        self.refused(SQUARE, MIDDLE + [("peg", 0, 0), ("line", 0, 0), None], Same, 3)

    def test_of_one_deed_no_deed_goes_first(self):
        self.refused(SQUARE, [("line", 4, 4)], NoDeed, 0)
        self.refused(SQUARE, [("line", -1, -1)], NoDeed, 0)
        self.refused(SQUARE, [("peg", 0, 0)], NoDeed, 0)
        self.refused(SQUARE, [("line", 0, 1), ("peg", 1, 1)], NoDeed, 1)
        self.refused(SQUARE, [("other", 0, 0)], NoDeed, 0)
        self.refused(SQUARE, [("line", 0, 0, 0)], NoDeed, 0)
        self.refused(SQUARE, [("line", True, True)], NoDeed, 0)
        self.refused(SQUARE, [("line", 3, -1)], NoDeed, 0)
        self.refused(SQUARE, [("line", -1, 3)], NoDeed, 0)

    def test_far_behind(self):
        plan = MIDDLE[:1] * 3000
        self.refused(SQUARE, plan + [("line", 1, 1)], Same, 3000)
        self.refused(SQUARE, plan + [("peg", 0, 3000)], NoDeed, 3000)
        self.refused(SQUARE, plan + [("peg", 0, 2999)], Same, 3000)


class NothingIsKept(unittest.TestCase):
    def test_what_was_handed_in_is_as_before(self):
        places, plan = list(SQUARE), list(MIDDLE)
        walked(places, plan)
        self.assertEqual((places, plan), (SQUARE, MIDDLE))

    def test_told_lists_are_the_askers_own(self):
        for plan in [[], MIDDLE[:1], MIDDLE]:
            places = list(SQUARE)
            right = copy.deepcopy(walked(places, plan))
            told = walked(places, plan)
            told[0].clear()
            told[1].append("mark")
            self.assertEqual(places, SQUARE)
            self.assertEqual(walked(places, plan), right)

    def test_what_is_done_later_changes_nothing_told(self):
        places, plan = list(SQUARE), list(MIDDLE)
        told = walked(places, plan)
        right = copy.deepcopy(told)
        with self.assertRaises(NoDeed):
            walked(places, plan + [None])
        places.clear()
        plan.clear()
        self.assertEqual(told, right)

    def test_behind_a_refusal_the_same_is_told(self):
        right = walked(SQUARE, MIDDLE)
        with self.assertRaises(Same):
            walked(SQUARE, MIDDLE + [("peg", 0, 0)])
        self.assertEqual(walked(SQUARE, MIDDLE), right)


if __name__ == "__main__":
    unittest.main()
