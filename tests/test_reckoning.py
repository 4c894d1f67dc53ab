"""Point 20: plans that draw the value of an expression."""

import itertools
import random
import unittest

from chalkline.errors import NoName, NoValue
from chalkline.plans import walked
from chalkline.reckoning import sum_plan
from chalkline.sums import read_sum, value
from helper import (
    BIG, BIGGEST, FAR_OFF, SQUARE, STANDARD, from_frame, refused, some_expression, some_frames, worth,
)

A, B, C = ("name", "a"), ("name", "b"), ("name", "c")
FRAMES = [STANDARD, SQUARE, SQUARE[::-1], [(3, 1, 2), (1, 0, 0), (-5, 4, 1), (1, 1, 0)]]
SMALL = [(0, 1), (1, 1), (-1, 1), (2, 1), (-2, 1), (1, 2), (-1, 2), (2, 3), (-5, 7)]
NAMES = ["a", "b", "c"]


class Drawn(unittest.TestCase):
    def drawn(self, expression, names, frames, all_values):
        """That one plan draws the value on each floor; told is on how many floors there is a value."""
        handed = list(names)
        told = sum_plan(expression, handed)
        self.assertEqual(handed, names)
        self.assertIs(type(told), tuple)
        plan, number = told
        self.assertIs(type(plan), list)
        self.assertIs(type(number), int)
        self.assertEqual(sum_plan(expression, names), told)
        done = 0
        for values in all_values:
            right = worth(expression, values)
            if right is None:
                continue
            for frame in frames:
                pegs = [from_frame(frame, (values[name][0], 0, values[name][1])) for name in names]
                places = walked(frame + pegs, plan)[0]
                self.assertEqual(places[number], from_frame(frame, (right.numerator, 0, right.denominator)), expression)
                done += 1
        return done

    def text_drawn(self, text, names, all_values, frames=FRAMES):
        with self.subTest(text):
            return self.drawn(read_sum(text), names, frames, all_values)


class EachSign(Drawn):
    def test_two_names_of_any_values(self):
        pairs = [{"a": one, "b": other} for one, other in itertools.product(SMALL, repeat=2)]
        for sign in "+-*/":
            done = self.text_drawn("a " + sign + " b", ["a", "b"], pairs)
            self.assertEqual(done, len(FRAMES) * (len(pairs) - (len(SMALL) if sign == "/" else 0)))
            self.text_drawn("b " + sign + " a", ["a", "b"], pairs)
            self.text_drawn("a " + sign + " b", ["b", "a"], pairs)

    def test_one_name_twice(self):
        for sign in "+-*/":
            self.text_drawn("a " + sign + " a", ["a"], [{"a": one} for one in SMALL + [(BIG, 3), (-3, BIGGEST)]])

    def test_contrary_values(self):
        pairs = [{"a": (top, bottom), "b": (-top, bottom)} for top, bottom in SMALL]
        for sign in "+-*/":
            self.text_drawn("a " + sign + " b", ["a", "b"], pairs)
            self.text_drawn("a " + sign + " (0 - b)", ["a", "b"], pairs)

    def test_a_name_and_a_number(self):
        values = [{"a": one} for one in SMALL]
        for sign, number in itertools.product("+-*/", [0, 1, 2, 3, 10, 999999999]):
            self.text_drawn("a " + sign + " " + str(number), ["a"], values)
            self.text_drawn(str(number) + " " + sign + " a", ["a"], values)

    def test_two_numbers(self):
        for sign, one, other in itertools.product("+-*/", [0, 1, 2, 7, 999999999], [0, 1, 2, 5, 64]):
            self.text_drawn(" ".join([str(one), sign, str(other)]), [], [{}])
            self.text_drawn(" ".join([str(one), sign, str(other)]), ["a"], [{"a": (3, 4)}, {"a": (0, 1)}, {"a": (1, 1)}])

    def test_many_frames(self):
        pairs = [{"a": one, "b": other} for one, other in itertools.product(SMALL[:6], repeat=2)]
        for sign in "+-*/":
            self.text_drawn("a " + sign + " b", ["a", "b"], pairs, some_frames(12))

    def test_sixty_figures(self):
        large = [(BIG, 1), (-BIG, BIGGEST), (1, BIGGEST), (0, 1), (1, 1)]
        pairs = [{"a": one, "b": other} for one, other in itertools.product(large, repeat=2)]
        for sign in "+-*/":
            self.text_drawn("a " + sign + " b", ["a", "b"], pairs, [STANDARD, SQUARE, FAR_OFF])


class Alone(Drawn):
    def test_names(self):
        for names in [["a"], ["b", "a"], ["a", "b", "c"], ["c", "b", "a", "d"]]:
            values = [{name: one for name, one in zip("abcd", four)} for four in itertools.permutations(SMALL, 4)][:40]
            self.text_drawn("a", names, values)
            self.text_drawn("((a))", names, values)

    def test_numbers(self):
        for number in list(range(70)) + [127, 128, 255, 1023, 12345678, 99999999, 2 ** 29, 2 ** 29 - 1, 999999999, 987654321]:
            self.text_drawn(str(number), [], [{}])
        for number in [0, 1, 5, 999999999]:
            self.text_drawn(str(number), ["a", "b"], [{"a": one, "b": one} for one in SMALL])

    def test_words_that_are_no_names_elsewhere(self):
        names = ["x", "rule", "times", "end"]
        values = [dict(zip(names, four)) for four in itertools.permutations(SMALL[:5], 4)]
        self.text_drawn("x + rule * times - end", names, values)

    def test_names_that_it_has_not(self):
        values = [dict(zip("abcdef", six)) for six in itertools.permutations(SMALL[:6], 6)][:60]
        self.text_drawn("c / e", list("abcdef"), values)
        self.text_drawn("f - 2", list("fedcba"), values)
        self.text_drawn("3 * 4", list("abcdef"), values)


class Nested(Drawn):
    def test_parts_whose_values_are_nought(self):
        values = [{"a": one, "b": other} for one, other in itertools.product(SMALL[:7], repeat=2)]
        for text in [
            "a - a", "(a - a) * b", "b * (a - a)", "(a - a) / b", "0 * a", "a * 0", "0 / a", "0 - a", "a - 0", "0 + a", "a + 0", "0 * 0",
            "0 - 0", "0 + 0", "0 / 1", "(a - a) - (b - b)", "(a - a) + (b - b)", "(a - a) * (b - b)", "(a - a) / (b - b + 1)",
            "0 * a + 0 * b", "1 - a / a", "a / a - b / b", "(a - 1) * (a + 1)", "(a + b) * (a - b)", "(a - b) / (a + b)",
            "(a + b) / (a - b)", "a * b - b * a", "a / b * b / a", "1 / (1 / a)", "1 / a - 1 / b", "0 - (0 - a)", "a - (a - (a - a))",
            "(a + b) - (a + b)", "(a + b) / (a + b)", "(a + b) - (b + a)", "(a * a - b * b) / (a - b)", "1 - 1 - 1", "2 * a - a - a",
        ]:
            self.text_drawn(text, ["a", "b"], values, FRAMES[:2])

    def test_two_signs_in_all_ways(self):
        threes = [dict(zip(NAMES, three)) for three in itertools.product([(0, 1), (1, 1), (-1, 1), (2, 3)], repeat=3)]
        for one, other in itertools.product("+-*/", repeat=2):
            self.text_drawn("(a " + one + " b) " + other + " c", NAMES, threes, FRAMES[:1])
            self.text_drawn("a " + one + " (b " + other + " c)", NAMES, threes, FRAMES[:1])

    def test_all_of_two_signs_and_few_leaves(self):
        values = [{"a": one} for one in SMALL[:5]]
        leaves = ["a", "0", "1"]
        for one, other in itertools.product("+-*/", repeat=2):
            for first, second, third in itertools.product(leaves, repeat=3):
                self.drawn(read_sum(f"({first} {one} {second}) {other} {third}"), ["a"], FRAMES[:1], values)
                self.drawn(read_sum(f"{first} {one} ({second} {other} {third})"), ["a"], FRAMES[:1], values)

    def test_many(self):
        chance = random.Random(20)
        leaves = [A, B, C, A, B, C, ("number", 0), ("number", 1), ("number", 2), ("number", 12)]
        done = 0
        for turn in range(400):
            expression = some_expression(chance, chance.randrange(2, 9), leaves)
            threes = [{name: chance.choice(SMALL) for name in NAMES} for one in range(6)]
            done += self.drawn(expression, NAMES, chance.sample(FRAMES, 2), threes)
        self.assertGreater(done, 1000)

    def test_sixty_signs(self):
        values = [{"a": one, "b": other} for one, other in [((1, 2), (-2, 3)), ((0, 1), (1, 1)), ((1, 1), (-1, 1))]]
        for text in ["a" + " + b - a * b" * 20, "a" + " / b" * 60, "b" + " - 999999999" * 60, "(a + 1) * (b - 2)" + " - a * (b + 3)" * 19]:
            self.text_drawn(text, ["a", "b"], values, FRAMES[:2])

    def test_more_than_sixty(self):
        left = right = ("number", 1)
        for turn in range(150):
            left, right = ("+", left, A), ("-", A, right)
        for expression in [left, right]:
            self.drawn(expression, ["a"], FRAMES[:2], [{"a": (2, 1)}, {"a": (0, 1)}, {"a": (-1, 3)}])

    def test_the_value_that_is_told_elsewhere(self):
        chance = random.Random(4)
        for turn in range(100):
            expression = some_expression(chance, 4, [A, B, ("number", 3)])
            values = {"a": chance.choice(SMALL), "b": chance.choice(SMALL)}
            try:
                top, bottom = value(expression, values)
            except NoValue:
                continue
            plan, number = sum_plan(expression, ["a", "b"])
            floor = STANDARD + [(values["a"][0], 0, values["a"][1]), (values["b"][0], 0, values["b"][1])]
            self.assertEqual(walked(floor, plan)[0][number], (top, 0, bottom))


class NoNames(unittest.TestCase):
    def test_a_name_that_is_not_in_the_list(self):
        for text, names in [
            ("a", []), ("a", ["b"]), ("a + b", ["a"]), ("a + b", ["b"]), ("b + a", ["b"]), ("0 * c", ["a", "b"]), ("a", ["aa"]), ("aa", ["a"]),
            ("a / 0 + b", ["a"]), ("x", ["y"]), ("a - (b - (c - d))", ["a", "b", "c"]), ("end", ["x", "rule", "times"]),
        ]:
            with self.subTest(text):
                refused(self, NoName, sum_plan, read_sum(text), list(names))

    def test_a_name_that_is_there_is_not_refused(self):
        self.assertEqual(sum_plan(A, ["a"]), ([], 4))
        self.assertEqual(sum_plan(A, ["b", "a"]), ([], 5))


class NothingIsKept(unittest.TestCase):
    def test_a_told_plan_is_the_askers_own(self):
        for text in ["a", "0", "a + b", "5 * a / b"]:
            expression, names = read_sum(text), ["a", "b"]
            plan, number = sum_plan(expression, names)
            right = list(plan)
            plan.append(("line", 0, 0))
            plan.reverse()
            self.assertEqual(sum_plan(expression, names), (right, number))
            self.assertEqual(names, ["a", "b"])
            names.clear()
            self.assertEqual(sum_plan(expression, ["a", "b"]), (right, number))

    def test_a_refusal_changes_nothing(self):
        right = sum_plan(("+", A, B), ["a", "b"])
        refused(self, NoName, sum_plan, ("+", A, B), ["a"])
        self.assertEqual(sum_plan(("+", A, B), ["a", "b"]), right)


if __name__ == "__main__":
    unittest.main()
