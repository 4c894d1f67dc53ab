"""Point 19: expressions read, and their values."""

import ast
import copy
import itertools
import random
import re
import unittest

from chalkline.errors import NoText, NoValue
from chalkline.sums import read_sum, value
from helper import BIG, BIGGEST, OTHER_THINGS, refused, some_expression, worth

A, B, C = ("name", "a"), ("name", "b"), ("name", "c")
SIGNS = {ast.Add: "+", ast.Sub: "-", ast.Mult: "*", ast.Div: "/"}
SIDE = r"(?:#|[a-z]{1,8}|0|[1-9][0-9]{0,8})"
ROW = SIDE + r"(?: [-+*/] " + SIDE + ")*"


def writes_one(text):
    """Whether a text of few signs writes an expression: its innermost brackets are taken away, one by one."""
    if "#" in text:
        return False
    while True:
        fewer = re.sub(r"\(" + ROW + r"\)", "#", text, count=1)
        if fewer == text:
            return re.fullmatch(ROW, text) is not None
        text = fewer


def read_by_python(text):
    """The expression that Python itself reads, whose signs bind alike."""
    def told(node):
        if isinstance(node, ast.BinOp):
            return (SIGNS[node.op.__class__], told(node.left), told(node.right))
        return ("name", node.id) if isinstance(node, ast.Name) else ("number", node.value)
    return told(ast.parse(text, mode="eval").body)


def written(expression, more):
    """The text of an expression, with the brackets that it needs, and so many more as more() tells for each part."""
    if expression[0] in ("name", "number"):
        text = str(expression[1])
    else:
        close = expression[0] in "*/"
        one, other = written(expression[1], more), written(expression[2], more)
        if close and expression[1][0] in ("+", "-"):
            one = "(" + one + ")"
        if expression[2][0] in ("+", "-") or close and expression[2][0] in ("*", "/"):
            other = "(" + other + ")"
        text = " ".join([one, expression[0], other])
    times = more()
    return "(" * times + text + ")" * times


def deep(text):
    """How many brackets stand round the innermost part."""
    return max(text[:at].count("(") - text[:at].count(")") for at in range(len(text) + 1))


class ReadSum(unittest.TestCase):
    def reads(self, text, expression):
        with self.subTest(text):
            told = read_sum(text)
            self.assertEqual(told, expression)
            self.assertEqual(repr(told), repr(expression))

    def test_names(self):
        for name in ["a", "z", "q", "ab", "zz", "abcdefgh", "zzzzzzzz", "x", "rule", "times", "end", "xx", "name", "number"]:
            self.reads(name, ("name", name))
            self.reads("(" + name + ")", ("name", name))
            self.reads(name + " + " + name, ("+", ("name", name), ("name", name)))
        for letter in "abcdefghijklmnopqrstuvwxyz":
            self.reads(letter, ("name", letter))

    def test_numbers(self):
        for number in list(range(120)) + [999, 1000, 12345678, 99999999, 100000000, 123456789, 999999998, 999999999]:
            self.reads(str(number), ("number", number))
            self.reads("(" + str(number) + ")", ("number", number))
            self.reads("a - " + str(number), ("-", A, ("number", number)))

    def test_each_sign(self):
        for sign in "+-*/":
            self.reads("a " + sign + " b", (sign, A, B))
            self.reads("7 " + sign + " a", (sign, ("number", 7), A))
            self.reads("(a " + sign + " b)", (sign, A, B))

    def test_which_sign_binds_closer(self):
        for loose, close in itertools.product("+-", "*/"):
            self.reads(" ".join(["a", loose, "b", close, "c"]), (loose, A, (close, B, C)))
            self.reads(" ".join(["a", close, "b", loose, "c"]), (loose, (close, A, B), C))
            self.reads("(a " + loose + " b) " + close + " c", (close, (loose, A, B), C))
            self.reads("a " + close + " (b " + loose + " c)", (close, A, (loose, B, C)))

    def test_from_the_left(self):
        for pair in ["+-", "*/"]:
            for one, other in itertools.product(pair, repeat=2):
                self.reads(" ".join(["a", one, "b", other, "c"]), (other, (one, A, B), C))
                self.reads("a " + one + " (b " + other + " c)", (one, A, (other, B, C)))
        self.reads("a - b - c - a - b", ("-", ("-", ("-", ("-", A, B), C), A), B))
        self.reads("a / b * c / a", ("/", ("*", ("/", A, B), C), A))

    def test_brackets_round_any_part(self):
        right = ("*", ("+", A, B), C)
        for text in ["(a + b) * c", "((a + b) * c)", "(a + b) * (c)", "((a) + (b)) * c", "(((a + b))) * ((c))"]:
            self.reads(text, right)
        self.reads("((((((((a))))))))", A)
        self.reads("((((((((0))))))))", ("number", 0))
        self.reads("((a)) + ((b)) * ((c))", ("+", A, ("*", B, C)))

    def test_four_signs_in_all_ways(self):
        for four in itertools.product("+-*/", repeat=4):
            text = " ".join(["a", four[0], "b", four[1], "c", four[2], "d", four[3], "e"])
            self.reads(text, read_by_python(text))

    def test_many_with_brackets(self):
        chance = random.Random(19)
        leaves = [A, B, ("name", "times"), ("number", 0), ("number", 999999999), ("number", 12)]
        read = 0
        while read < 1500:
            expression = some_expression(chance, chance.randrange(9), leaves)
            text = written(expression, lambda: chance.choice([0, 0, 0, 0, 0, 1, 2]))
            if deep(text) <= 8:
                self.reads(text, expression)
                read += 1
            else:
                refused(self, NoText, read_sum, text)

    def test_all_short_texts(self):
        read = 0
        for many in range(6):
            for signs in itertools.product("ab01 +*()", repeat=many):
                read += self.read_or_refused("".join(signs))
        self.assertGreater(read, 100)

    def test_all_rows_of_few_pieces(self):
        read = 0
        for many in range(7):
            for pieces in itertools.product(["a", "20", " ", " - ", " / ", "(", ")"], repeat=many):
                read += self.read_or_refused("".join(pieces))
        self.assertGreater(read, 100)

    def read_or_refused(self, text):
        if writes_one(text):
            self.assertEqual(read_sum(text), read_by_python(text), text)
            return 1
        try:
            self.fail((text, read_sum(text)))
        except NoText:
            return 0

    def test_sixty_signs(self):
        for sign in "+-*/":
            right = A
            for turn in range(60):
                right = (sign, right, B)
            self.reads("a" + (" " + sign + " b") * 60, right)
            refused(self, NoText, read_sum, "a" + (" " + sign + " b") * 61)
            refused(self, NoText, read_sum, "(a" + (" " + sign + " b") * 30 + ")" + (" " + sign + " b") * 31)
            self.assertEqual(len(str(read_sum("(a" + (" " + sign + " b") * 30 + ")" + (" " + sign + " b") * 30))), len(str(right)))
        mixed = "a" + " + b - c * a / b" * 15
        self.reads(mixed, read_by_python(mixed))
        refused(self, NoText, read_sum, mixed + " + b")

    def test_eight_deep(self):
        for core, right in [("a", A), ("5", ("number", 5)), ("a * b", ("*", A, B))]:
            for many in range(9):
                self.reads("(" * many + core + ")" * many, right)
            for many in [9, 10, 60, 61, 5000, 9000]:
                refused(self, NoText, read_sum, "(" * many + core + ")" * many)
        nested, right = "a", A
        for many in range(8):
            nested, right = "(b - " + nested + ")", ("-", B, right)
        self.reads(nested, right)
        self.reads(nested + " / " + nested, ("/", right, right))
        self.reads("a * " + nested, ("*", A, right))
        refused(self, NoText, read_sum, "(b - " + nested + ")")
        refused(self, NoText, read_sum, "(a) * (b - " + nested + ")")
        refused(self, NoText, read_sum, "(" + nested + " + a)")
        # So deep again and again, but never deeper.
        self.assertTrue(read_sum(" + ".join([nested] * 6)))

    def test_very_long_ones(self):
        for text in [
            "(" * 20000, ")" * 20000, "()" * 10000, "a" + " + a" * 4000, " " * 20000, "+" * 20000, "a" * 20000, "7" * 5000,
            "7" * 19990 + " + a", "(a) + " * 3000 + "a", "((a) - " * 2000 + "a" + ")" * 2000, "a + (" * 2000 + "b" + ")" * 2000,
            "(" * 4000 + "a" + " + b)" * 4000, "0" * 20000, "1" + "0" * 9, "- " * 9000,
        ]:
            refused(self, NoText, read_sum, text)


class NoTextIsRefused(unittest.TestCase):
    def test_texts(self):
        for text in [
            "", " ", "  ", "   ", "a+b", "a +b", "a+ b", "a  + b", "a +  b", " a", "a ", " a + b", "a + b ", "( a)", "(a )",
            "( a + b )", "(a + b )", "( a + b)", "a + (b", "a + b)", "(a", "a)", ")a(", "a) + (b", "((a)", "(a))", "()", "(())",
            "a + ()", "() + a", "a +", "+ a", "a + + b", "a + b +", "+", "-", "*", "/", "(+)", "( + )", "-a", "- a", "-1", "+1", "a -1",
            "a * -b", "a - -1", "a b", "a (b)", "(a) b", "(a)(b)", "(a) (b)", "a(b)", "(a)b", "2a", "a2", "2 a", "a,b", "a = b", "a x b",
            "a ** b", "a // b", "a % b", "a ^ b", "a : b", "a +- b", "a ++ b", "a +* b", "[a]", "{a}", "a\n", "\na", "a\n+ b",
            "a +\nb", "a\t+ b", "a\t+\tb", "\ta", "a\r", "a;", "a; b", "\n", "\t", "a + b\n", "(a\n)", "a + (b\t)", "a . b",
            "A", "Ab", "aB", "a_b", "_", "a'", "abcdefghi", "aaaaaaaaa", "a + abcdefghi", "00", "01", "007", "0a", "a + 00", "1000000000",
            "9999999999", "1234567890", "0999999999", "0000000001", "0123456789", "1.5", "1,5", "1e3", "0x1", "1_000", "a + 1000000000",
            "()a", "a()", "(a)()", "()(a)", "(a + b)(c)", "((a) + (b)", "a * (b + (c)", "a - b) * (c", "(a +) b", "a (+ b)", "(a + )b",
            "a (+) b", "(a) +(b)", "a + )b(", "a /", "/ a", "a * / b", "( )", "(  )", "a + ( )", "\u00b2", "\u0661", "\u00e4", "a \u2212 b",
            "a\u00a0+\u00a0b", "a \u00d7 b", "a\x00", "\x00",
        ]:
            with self.subTest(text):
                refused(self, NoText, read_sum, text)

    def test_things_that_are_no_text(self):
        for thing in OTHER_THINGS + [
            [], ["a"], ["a", "+", "b"], [["a"]], ("name", "a"), ("number", 1), ("+", A, B), [A], {"a": (1, 2)}, 999999999,
            bytearray(b"a"), b"a + b", ("a + b",), ["a + b"], memoryview(b"a").tobytes(),
        ]:
            with self.subTest(repr(thing)):
                refused(self, NoText, read_sum, thing)


class Value(unittest.TestCase):
    def is_worth(self, text, values, right):
        with self.subTest(text=text, values=values):
            handed = dict(values)
            told = value(read_sum(text), handed)
            self.assertEqual(told, right)
            self.assertEqual(repr(told), repr(right))
            self.assertEqual(handed, values)

    def test_names_and_numbers(self):
        self.is_worth("a", {"a": (3, 4)}, (3, 4))
        self.is_worth("a", {"a": (-3, 4), "b": (1, 1)}, (-3, 4))
        self.is_worth("(times)", {"times": (0, 1)}, (0, 1))
        self.is_worth("0", {}, (0, 1))
        self.is_worth("999999999", {}, (999999999, 1))
        self.is_worth("7", {"a": (1, 2)}, (7, 1))

    def test_each_sign(self):
        half, third = (1, 2), (1, 3)
        for sign, right in [("+", (5, 6)), ("-", (1, 6)), ("*", (1, 6)), ("/", (3, 2))]:
            self.is_worth("a " + sign + " b", {"a": half, "b": third}, right)
        for sign, right in [("+", (1, 6)), ("-", (-5, 6)), ("*", (-1, 6)), ("/", (-2, 3))]:
            self.is_worth("b " + sign + " a", {"a": half, "b": (-1, 3)}, right)

    def test_lowest_terms(self):
        self.is_worth("2 / 4", {}, (1, 2))
        self.is_worth("6 / 3", {}, (2, 1))
        self.is_worth("0 / 7", {}, (0, 1))
        self.is_worth("0 * a", {"a": (5, 7)}, (0, 1))
        self.is_worth("a - a", {"a": (5, 7)}, (0, 1))
        self.is_worth("a + a", {"a": (1, 2)}, (1, 1))
        self.is_worth("a / a", {"a": (-5, 7)}, (1, 1))
        self.is_worth("a * b", {"a": (4, 9), "b": (3, 8)}, (1, 6))
        self.is_worth("a + b", {"a": (1, 6), "b": (1, 3)}, (1, 2))
        self.is_worth("1 / (0 - 2)", {}, (-1, 2))
        self.is_worth("(0 - 1) / (0 - 2)", {}, (1, 2))
        self.is_worth("0 / (0 - 2)", {}, (0, 1))
        self.is_worth("a / b", {"a": (0, 1), "b": (-3, 4)}, (0, 1))

    def test_all_pairs(self):
        fractions = [(0, 1), (1, 1), (-1, 1), (1, 2), (-1, 2), (2, 3), (-3, 2), (4, 1), (9, 10), (BIG, 3), (-BIGGEST, BIG)]
        for one, other, sign in itertools.product(fractions, fractions, "+-*/"):
            values = {"a": one, "b": other}
            right = worth((sign, A, B), values)
            if right is None:
                refused(self, NoValue, value, (sign, A, B), values)
            else:
                self.is_worth("a " + sign + " b", values, (right.numerator, right.denominator))

    def test_many(self):
        chance = random.Random(20)
        leaves = [A, B, C, ("number", 0), ("number", 1), ("number", 2), ("number", 999999999)]
        values = {"a": (0, 1), "b": (-3, 4), "c": (1, 1), "d": (7, 9)}
        refusals = 0
        for turn in range(3000):
            expression = some_expression(chance, chance.randrange(8), leaves)
            right = worth(expression, values)
            if right is None:
                refused(self, NoValue, value, expression, values)
                refusals += 1
            else:
                told = value(expression, values)
                self.assertEqual(told, (right.numerator, right.denominator))
                self.assertIs(type(told), tuple)
        self.assertGreater(refusals, 300)

    def test_sixty_signs(self):
        values = {"a": (BIG, BIGGEST), "b": (-BIGGEST, BIG + 2)}
        for sign in "+-*/":
            expression = read_sum("a" + (" " + sign + " b") * 60)
            right = worth(expression, values)
            self.assertEqual(value(expression, values), (right.numerator, right.denominator))

    def test_more_than_sixty(self):
        left = right = ("number", 1)
        for turn in range(150):
            left, right = ("+", left, A), ("-", A, right)
        self.assertEqual(value(left, {"a": (2, 1)}), (301, 1))
        self.assertEqual(value(right, {"a": (2, 1)}), (1, 1))

    def test_divided_by_nought(self):
        values = {"a": (0, 1), "b": (2, 1)}
        for text in [
            "1 / 0", "0 / 0", "b / a", "a / a", "b / (b - 2)", "0 * (1 / 0)", "(1 / 0) * 0", "1 / 0 - 1 / 0", "1 + b / a", "b / a + 1",
            "1 / (b * a)", "1 / (1 / 0)", "0 / (1 / 0)", "1 / (0 / b)", "b - b / a * 0", "1 / a / b", "a / b / a", "1 / (1 - 1)",
        ]:
            with self.subTest(text):
                refused(self, NoValue, value, read_sum(text), values)

    def test_a_name_that_is_not_there(self):
        for text, values in [
            ("a", {}), ("a", {"b": (1, 1)}), ("b", {"a": (1, 1), "c": (1, 1)}), ("a + b", {"a": (1, 1)}), ("b + a", {"a": (1, 1)}),
            ("0 * b", {"a": (1, 1)}), ("a / b", {"b": (0, 1)}), ("b / a", {"a": (0, 1)}), ("a - (a - (a - ab))", {"a": (1, 1)}),
            ("x", {"y": (1, 1)}), ("a", {"aa": (1, 1)}), ("aa", {"a": (1, 1)}),
        ]:
            with self.subTest(text):
                refused(self, NoValue, value, read_sum(text), values)


class NothingIsKept(unittest.TestCase):
    def test_the_dict_stays(self):
        values = {"b": (1, 2), "a": (0, 1), "c": (-3, 4)}
        before = copy.deepcopy(values)
        value(read_sum("a + b * c - 4 / b"), values)
        self.assertEqual(list(values.items()), list(before.items()))

    def test_asked_anew(self):
        expression = read_sum("a + b")
        values = {"a": (1, 2), "b": (1, 3)}
        self.assertEqual(value(expression, values), (5, 6))
        values["a"] = (2, 3)
        self.assertEqual(value(expression, values), (1, 1))
        values.clear()
        refused(self, NoValue, value, expression, values)
        self.assertEqual(read_sum("a + b"), ("+", A, B))


if __name__ == "__main__":
    unittest.main()
