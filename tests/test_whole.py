"""Point 4 over the whole program, and the interface: every name with its arguments."""

import importlib
import inspect
import itertools
import random
import unittest

from chalkline.bows import again, bow_plan, on_bow, bow_of
from chalkline.changes import led
from chalkline.errors import ChalkError, Endless, NoFrame
from chalkline.floors import comes, frame_of, kind_of
from chalkline.pictures import held
from chalkline.places import crossing, lies, on_one, through
from chalkline.plans import walked
from chalkline.reckoning import sum_plan
from chalkline.rounds import rounds
from chalkline.sums import read_sum, value
from chalkline.wishes import STANDARD, plan_for
from helper import FAR_OFF, ROW, SQUARE, TIP, from_frame, in_form, is_frame, small_places, some_frames, volume

INTERFACE = {
    "places": ["is_whole(thing)", "is_place(thing)", "place_of(x, y, z)", "lies(place, line)", "through(one, other)",
               "crossing(one, other)", "on_one(places)"],
    "floors": ["is_floor(thing)", "look_at(floor)", "frame_of(floor)", "kind_of(floor)", "comes(floor)"],
    "plans": ["walked(places, plan)"],
    "texts": ["shown(plan)", "read(text)"],
    "drawings": ["is_name(thing)", "read_drawing(text)", "shown_drawing(drawing)"],
    "opening": ["opened(names, drawing)"],
    "changes": ["is_change(thing)", "change_of(numbers)", "led(change, place)", "led_line(change, line)",
                "both(first, second)", "undoing(change)", "between(four, other)"],
    "wishes": ["by_frame(four, place)", "plan_for(floor, wish)"],
    "sums": ["read_sum(text)", "value(expression, values)"],
    "reckoning": ["sum_plan(expression, names)"],
    "pictures": ["held(one, other)"],
    "rounds": ["rounds(floor, many, most)", "how_soon(floor, place, many, most)"],
    "ratios": ["ratio(a, b, c, d)"],
    "bows": ["bow_of(five)", "on_bow(bow, place)", "again(five, place)", "bow_plan()", "six(places)"],
    "desk": ["Desk()"],
}


def some_floors(many, most):
    chance = random.Random(many)
    return [chance.sample(small_places(most), chance.randrange(1, 9)) for turn in range(many)]


class TheInterface(unittest.TestCase):
    def test_each_name_with_its_arguments(self):
        for module, rows in INTERFACE.items():
            held_in = importlib.import_module("chalkline." + module)
            for row in rows:
                name = row.partition("(")[0]
                self.assertEqual(name + str(inspect.signature(getattr(held_in, name))), row)

    def test_the_values_that_are_told(self):
        self.assertEqual(STANDARD, [(1, 0, 0), (0, 1, 0), (0, 0, 1), (1, 1, 1)])
        desk = importlib.import_module("chalkline.desk").Desk()
        self.assertEqual(list(inspect.signature(desk.say).parameters), ["row"])


class EveryFloor(unittest.TestCase):
    def with_a_frame(self, floor, frame):
        self.assertTrue(is_frame([floor[k] for k in frame]))
        with self.assertRaises(Endless):
            comes(floor)
        for wish in [(5, -3, 7), (1, 2, 0), (-1, 4, 1)]:
            plan, number = plan_for(floor, wish)
            self.assertEqual(walked(floor, plan)[0][number], wish)

    def without_one(self, floor):
        places, lines = comes(floor)
        # All that comes is there: no two of these make another one.
        self.assertTrue(set(floor) <= set(places))
        for one, other in itertools.combinations(places, 2):
            self.assertIn(through(one, other), lines)
        for one, other in itertools.combinations(lines, 2):
            self.assertIn(crossing(one, other), places)
        self.assertEqual(rounds(floor, 2, 12), [[], []])
        with self.assertRaises(NoFrame):
            plan_for(floor, (5, -3, 7))

    def test_just_one_is_told(self):
        kinds = {}
        for floor in some_floors(150, 1) + some_floors(151, 3) + [SQUARE, ROW, ROW[:11] + [TIP], [TIP]]:
            kind = kind_of(floor)
            kinds[kind[0]] = True
            if kind[0] == "frame":
                self.assertEqual(kind[1], frame_of(floor))
                self.with_a_frame(floor, kind[1])
            else:
                self.assertIsNone(frame_of(floor))
                rest = floor if kind == ("line",) else [peg for k, peg in enumerate(floor) if k != kind[1]]
                self.assertTrue(on_one(rest))
                self.without_one(floor)
        self.assertEqual(sorted(kinds), ["fan", "frame", "line"])


class TwoFloors(unittest.TestCase):
    def test_just_one_is_told(self):
        chance = random.Random(4)
        kinds = {}
        for turn in range(300):
            one = chance.sample(small_places(2), chance.randrange(4, 7))
            other = list(one)
            for k in chance.sample(range(len(one)), chance.randrange(3)):
                other[k] = (chance.randrange(-9, 9), chance.randrange(-9, 9), 1)
            if len(set(other)) < len(other):
                continue
            try:
                told = held(one, other)
            except NoFrame:
                self.assertIsNone(frame_of(one) or frame_of(other))
                continue
            kinds[told[0]] = True
            if told[0] == "change":
                self.assertEqual([led(told[1], place) for place in one], other)
            elif told[0] == "line":
                here, there = [volume(*[floor[k] for k in told[1:]]) == 0 for floor in (one, other)]
                self.assertNotEqual(here, there)
            else:
                self.assertEqual(walked(one, told[1])[0][-1], one[told[2]])
                self.assertNotEqual(walked(other, told[1])[0][-1], other[told[2]])
        self.assertEqual(sorted(kinds), ["change", "line", "plan"])


class EveryExpression(unittest.TestCase):
    def test_its_value_is_drawn(self):
        for text in ["a", "7", "a + b", "a - b", "a * b", "a / b", "(a + 2) * b - a / (b + 9)", "a - a", "(a - b) * (a + b) / 3"]:
            plan, number = sum_plan(read_sum(text), ["a", "b"])
            for a, b in itertools.product([(0, 1), (1, 1), (-1, 1), (2, 3), (-7, 4)], repeat=2):
                try:
                    top, bottom = value(read_sum(text), {"a": a, "b": b})
                except ChalkError:
                    continue
                for four in [STANDARD, FAR_OFF] + some_frames(2):
                    places = four + [from_frame(four, in_form((t, 0, s))) for t, s in (a, b)]
                    self.assertEqual(walked(places, plan)[0][number], from_frame(four, in_form((top, 0, bottom))))


class EveryBow(unittest.TestCase):
    def test_it_is_met_again(self):
        plan, number = bow_plan()
        chance = random.Random(5)
        done = 0
        while done < 60:
            places = chance.sample(small_places(2), 5)
            if not all(volume(*three) for three in itertools.combinations(places, 3)):
                continue
            done += 1
            bow = bow_of(places)
            for sixth in small_places(1) + places[1:]:
                if sixth != places[0]:
                    met = walked(places + [sixth], plan)[0][number]
                    self.assertEqual(met, again(places, sixth))
                    self.assertTrue(on_bow(bow, met))
                    self.assertTrue(lies(met, through(places[0], sixth)))


if __name__ == "__main__":
    unittest.main()
