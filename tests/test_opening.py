"""Point 14: drawings opened."""

import copy
import random
import unittest

from chalkline.drawings import read_drawing
from chalkline.errors import ChalkError, NoName, TooMany
from chalkline.opening import opened
from chalkline.plans import walked
from helper import SQUARE, refused

FOUR = ["a", "b", "c", "d"]
ROW = "e = a b x c d"
CROSS = ("cross", "e", "a", "b", "c", "d")
LOST = ("cross", "e", "a", "b", "c", "q")
AT_FIRST = {"a": 0, "b": 1, "c": 2, "d": 3}


class Refusal(Exception):
    """A refusal of the telling below; it has the name of the class that the program is to raise."""


class Telling:
    """Point 14 by its words, with calls within calls."""

    def __init__(self, names, drawing):
        self.rules = drawing[0]
        self.pegs = len(names)
        self.plan = []
        self.left = 4000
        self.known = {name: number for number, name in enumerate(names)}
        self.rows(drawing[1], self.known, self.rules)

    def one(self):
        if self.left == 0:
            raise Refusal("TooMany")
        self.left -= 1

    def peg(self, name, known):
        if name not in known:
            raise Refusal("NoName")
        return known[name]

    def rows(self, rows, known, ahead):
        for row in rows:
            self.one()
            if row[0] == "cross":
                a, b, c, d = [self.peg(name, known) for name in row[2:]]
                lines = len(self.plan) // 3 * 2
                self.plan += [("line", a, b), ("line", c, d), ("peg", lines, lines + 1)]
                known[row[1]] = self.pegs
                self.pegs += 1
            elif row[0] == "rule":
                known[row[1]] = self.rule(row, known, ahead)
            else:
                for turn in range(row[1]):
                    self.one()
                    self.rows(row[2], known, ahead)

    def rule(self, row, known, ahead):
        for number, (name, params, out, rows) in enumerate(ahead):
            if name == row[2] and len(params) == len(row[3]):
                inner = {param: self.peg(peg, known) for param, peg in zip(params, row[3])}
                self.rows(rows, inner, ahead[:number])
                return self.peg(out, inner)
        raise Refusal("NoName")


def verdict(names, drawing):
    try:
        told = opened(names, drawing)
    except ChalkError as error:
        return type(error).__name__
    return told


def right_verdict(names, drawing):
    try:
        told = Telling(names, drawing)
    except Refusal as refusal:
        return str(refusal)
    return (told.plan, told.known)


def some_rows(chance, names, rules, within, rounds):
    rows = []
    for turn in range(chance.randrange(1, 4)):
        kind = chance.choice(["cross", "cross", "rule", "times"] if within < 4 else ["cross", "rule"])
        if kind == "cross":
            rows.append(("cross",) + tuple(chance.choice(names) for number in range(5)))
        elif kind == "rule" and rules:
            rule = chance.choice(rules)
            many = len(rule[1]) + (chance.random() < 0.05)
            rows.append(("rule", chance.choice(names), rule[0], tuple(chance.choice(names) for number in range(many))))
        elif kind == "times":
            rows.append(("times", chance.choice(rounds), some_rows(chance, names, rules, within + 1, rounds)))
    return tuple(rows) or (("cross",) + tuple(chance.choice(names) for number in range(5)),)


def some_drawings(many):
    """Drawings with rules within rules and rounds, the same ones at each run; some are refused."""
    chance = random.Random(many)
    for turn in range(many):
        names = FOUR + ["e", "f"][:chance.randrange(3)]
        rounds = chance.choice([[0, 1, 2], [1, 3, 7], [20, 60]])
        rules = []
        for name in "rstuvw"[:chance.randrange(7)]:
            params = tuple(chance.sample(names, chance.randrange(3, 5)))
            inner = params if chance.random() < 0.8 else tuple(names)
            own = (name, params) if chance.random() < 0.03 else None
            rows = some_rows(chance, inner, rules + ([own] if own else []), 0, rounds)
            rules.append((name, params, chance.choice(inner), rows))
        yield (tuple(rules), some_rows(chance, names, rules, 0, rounds))


def begun(many):
    """Rows that begin so many rows and rounds in all, crossings last."""
    sixty = ("times", 60, (CROSS,))
    return (sixty,) * (many // 121) + (CROSS,) * (many % 121)


class Told(unittest.TestCase):
    def told(self, text, plan, more, names=FOUR):
        """The plan and the names that come to those of the floor or change there."""
        with self.subTest(text):
            right = {name: number for number, name in enumerate(names)}
            right.update(more)
            told = opened(list(names), read_drawing(text))
            self.assertEqual(told, (plan, right))
            self.assertEqual([type(thing) for thing in (told,) + told], [tuple, list, dict])
            for deed in told[0]:
                self.assertEqual([type(part) for part in (deed,) + deed], [tuple, str, int, int])

    def test_crossings(self):
        self.told(ROW, [("line", 0, 1), ("line", 2, 3), ("peg", 0, 1)], {"e": 4})
        self.told("e = d a x c b", [("line", 3, 0), ("line", 2, 1), ("peg", 0, 1)], {"e": 4})
        self.told(f"{ROW}; f = a c x b e", [
            ("line", 0, 1), ("line", 2, 3), ("peg", 0, 1), ("line", 0, 2), ("line", 1, 4), ("peg", 2, 3),
        ], {"e": 4, "f": 5})

    def test_lines_are_made_anew_for_each_crossing(self):
        self.told(f"{ROW}; f = a b x c d", [
            ("line", 0, 1), ("line", 2, 3), ("peg", 0, 1), ("line", 0, 1), ("line", 2, 3), ("peg", 2, 3),
        ], {"e": 4, "f": 5})

    def test_alike_pegs_are_not_looked_at(self):
        self.told("e = a a x a a", [("line", 0, 0), ("line", 0, 0), ("peg", 0, 1)], {"e": 4})

    def test_one_name_and_twelve(self):
        self.told("b = a a x a a", [("line", 0, 0), ("line", 0, 0), ("peg", 0, 1)], {"b": 1}, ["a"])
        self.told("z = a l x k b", [("line", 0, 11), ("line", 10, 1), ("peg", 0, 1)], {"z": 12}, list("abcdefghijkl"))

    def test_names_in_another_order(self):
        self.told("q = p o x m n", [("line", 0, 1), ("line", 3, 2), ("peg", 0, 1)], {"q": 4}, ["p", "o", "n", "m"])

    def test_a_new_that_is_known(self):
        self.told("a = a b x c d; a = a b x a c", [
            ("line", 0, 1), ("line", 2, 3), ("peg", 0, 1), ("line", 4, 1), ("line", 4, 2), ("peg", 2, 3),
        ], {"a": 5})
        self.told(f"{ROW}; e = e b x c e; f = e a x a e", [
            ("line", 0, 1), ("line", 2, 3), ("peg", 0, 1), ("line", 4, 1), ("line", 2, 4), ("peg", 2, 3),
            ("line", 5, 0), ("line", 0, 5), ("peg", 4, 5),
        ], {"e": 5, "f": 6})

    def test_a_rule_done(self):
        self.told("rule r a b c d > m; m = a d x b c; end; e = r d a b c", [
            ("line", 3, 2), ("line", 0, 1), ("peg", 0, 1),
        ], {"e": 4})
        self.told("rule r p q > o; n = p q x p q; o = n p x n q; end; e = r b c; f = r e e", [
            ("line", 1, 2), ("line", 1, 2), ("peg", 0, 1), ("line", 4, 1), ("line", 4, 2), ("peg", 2, 3),
            ("line", 5, 5), ("line", 5, 5), ("peg", 4, 5), ("line", 6, 5), ("line", 6, 5), ("peg", 6, 7),
        ], {"e": 5, "f": 7})

    def test_the_new_of_a_rule_may_be_known(self):
        self.told("rule r p > o; o = p p x p p; end; a = r a; b = a a x b b", [
            ("line", 0, 0), ("line", 0, 0), ("peg", 0, 1), ("line", 4, 4), ("line", 1, 1), ("peg", 2, 3),
        ], {"a": 4, "b": 5})

    def test_an_out_that_is_a_param(self):
        self.told("rule r p q > q; o = p q x p q; end; e = r a c; f = e e x a a", [
            ("line", 0, 2), ("line", 0, 2), ("peg", 0, 1), ("line", 2, 2), ("line", 0, 0), ("peg", 2, 3),
        ], {"e": 2, "f": 5})
        self.told("rule r p q > p; p = p q x q p; p = p p x q q; end; e = r a c", [
            ("line", 0, 2), ("line", 2, 0), ("peg", 0, 1), ("line", 4, 4), ("line", 2, 2), ("peg", 2, 3),
        ], {"e": 5})

    def test_what_is_known_within_a_rule_is_not_known_outside(self):
        self.told("rule r a b > e; d = a b x a b; a = d d x d d; e = a a x b b; end; c = r c b", [
            ("line", 2, 1), ("line", 2, 1), ("peg", 0, 1), ("line", 4, 4), ("line", 4, 4), ("peg", 2, 3),
            ("line", 5, 5), ("line", 1, 1), ("peg", 4, 5),
        ], {"c": 6})

    def test_one_peg_for_two_params(self):
        self.told("rule r p q > o; o = p q x q p; end; e = r c c", [
            ("line", 2, 2), ("line", 2, 2), ("peg", 0, 1),
        ], {"e": 4})

    def test_rules_within_rules(self):
        self.told(
            "rule r a b > c; c = a b x b a; end; rule s b a > d; c = r a b; d = r c a; end; "
            "rule t q > w; w = s q q; w = r w q; end; e = t d; f = s a b", [
                ("line", 3, 3), ("line", 3, 3), ("peg", 0, 1), ("line", 4, 3), ("line", 3, 4), ("peg", 2, 3),
                ("line", 5, 3), ("line", 3, 5), ("peg", 4, 5),
                ("line", 1, 0), ("line", 0, 1), ("peg", 6, 7), ("line", 7, 1), ("line", 1, 7), ("peg", 8, 9),
            ], {"e": 6, "f": 8})

    def test_a_rule_a_param_and_a_peg_of_one_name(self):
        self.told("rule a a > a; a = a a x a a; end; a = a a; a = a a", [
            ("line", 0, 0), ("line", 0, 0), ("peg", 0, 1), ("line", 4, 4), ("line", 4, 4), ("peg", 2, 3),
        ], {"a": 5})

    def test_rounds(self):
        self.told(f"times 1; {ROW}; end", [("line", 0, 1), ("line", 2, 3), ("peg", 0, 1)], {"e": 4})
        self.told(f"times 2; {ROW}; b = e e x a a; end; c = b b x b b", [
            ("line", 0, 1), ("line", 2, 3), ("peg", 0, 1), ("line", 4, 4), ("line", 0, 0), ("peg", 2, 3),
            ("line", 0, 5), ("line", 2, 3), ("peg", 4, 5), ("line", 6, 6), ("line", 0, 0), ("peg", 6, 7),
            ("line", 7, 7), ("line", 7, 7), ("peg", 8, 9),
        ], {"e": 6, "b": 7, "c": 8})

    def test_rounds_within_rounds_and_rules(self):
        plan = []
        for turn in range(6):
            plan += [("line", 3 + turn, 0), ("line", 0, 3 + turn), ("peg", 2 * turn, 2 * turn + 1)]
        self.told("times 2; times 3; d = d a x a d; end; end", plan, {"d": 9})
        self.told("rule r p q > p; times 3; p = p q x q p; end; end; times 2; d = r d a; end", plan, {"d": 9})

    def test_rounds_in_their_order(self):
        self.told("times 2; e = a a x a a; times 2; f = b b x b b; end; g = c c x c c; end", [
            deed for turn in range(2) for at, peg in enumerate([0, 1, 1, 2]) for deed in [
                ("line", peg, peg), ("line", peg, peg), ("peg", 8 * turn + 2 * at, 8 * turn + 2 * at + 1)]
        ], {"e": 8, "f": 10, "g": 11})

    def test_rounds_of_no_times(self):
        self.told(f"times 0; {ROW}; end", [], {})
        self.told(f"times 0; e = nowhere q; end; {ROW}", [("line", 0, 1), ("line", 2, 3), ("peg", 0, 1)], {"e": 4})
        self.told("times 0; e = q q x q q; times 60; times 60; times 60; e = o p; end; end; end; end", [], {})
        self.told("rule r p > p; times 0; e = r z; end; end; e = r b", [], {"e": 1})

    def test_a_rule_that_is_not_done_is_not_looked_at(self):
        self.told(f"rule r a > q; q = lost o; end; rule s a > o; b = a a x a a; end; {ROW}", [
            ("line", 0, 1), ("line", 2, 3), ("peg", 0, 1)], {"e": 4})

    def test_walked(self):
        text = "rule mid p q r s > m; m = p s x q r; end; m = mid a b c d; f = a b x c d; n = m f x b d"
        plan, known = opened(FOUR, read_drawing(text))
        pegs = walked(SQUARE, plan)[0]
        self.assertEqual([pegs[known[name]] for name in "amfn"], [(0, 0, 1), (1, 1, 2), (1, 0, 0), (2, 1, 2)])

    def test_twenty_rules_deep_with_rounds_within_rounds(self):
        rules = ["rule r p > p; p = p p x p p; end"]
        names = ["r" + chr(97 + k) for k in range(19)]
        for name, above in zip(names, ["r"] + names):
            rules.append(f"rule {name} p > p; times 1; times 1; times 1; times 1; p = {above} p; end; end; end; end; end")
        text = "; ".join(rules + [f"times 1; times 1; times 1; times 1; e = {names[-1]} d; end; end; end; end"])
        self.told(text, [("line", 3, 3), ("line", 3, 3), ("peg", 0, 1)], {"e": 4})

    def test_somewhat_beyond_the_bounds(self):
        rows = (CROSS,)
        for turn in range(12):
            rows = (("times", 1, rows),)
        self.assertEqual(opened(FOUR, ((), rows)), opened(FOUR, ((), (CROSS,))))
        many = ("times", 100, (CROSS,))
        self.assertEqual(len(opened(FOUR, ((), (many,)))[0]), 300)
        names = list("abcdefghijklmnop")
        self.assertEqual(opened(names, ((), (CROSS,)))[1]["e"], 16)


class NoNames(unittest.TestCase):
    def none(self, text, names=FOUR):
        with self.subTest(text):
            refused(self, NoName, opened, list(names), read_drawing(text))

    def test_names_that_are_not_known(self):
        for row in ["e = q b x c d", "e = a q x c d", "e = a b x q d", "e = a b x c q", "q = q b x c d", "e = q q x q q"]:
            self.none(row)
            self.none(f"{ROW}; f = e e x e e; {row}")
            self.none(f"times 1; {row}; end")
            self.none(f"rule r a b c d > a; {row}; end; f = r a b c d")
        self.none("e = f a x b c; f = a b x c d")
        self.none("e = a b x c d", ["a", "b", "c"])
        self.none("e = a b x c d", ["a"])

    def test_pegs_of_rules_that_are_not_known(self):
        rule = "rule r p q > o; o = p q x p q; end; "
        for row in ["e = r q a", "e = r a q", "e = r e a", "e = r a e", "e = r p q", "e = r o o", "e = r r a"]:
            self.none(rule + row)
            self.none(rule + f"times 3; {row}; end")

    def test_a_name_that_no_rule_bears(self):
        self.none("e = r a")
        self.none("e = a a")
        self.none("rule r p > p; p = p p x p p; end; e = s a")
        self.none("rule r p > p; p = p p x p p; end; e = p a")
        self.none("rule r p > p; p = p p x p p; end; e = r a; e = rr a")

    def test_its_own_name_and_a_later_ones_within_a_rule(self):
        self.none("rule r p > p; p = r p; end; e = r a")
        self.none("rule r p > p; times 1; p = r p; end; end; e = r a")
        self.none("rule r p > p; p = s p; end; rule s p > p; p = p p x p p; end; e = r a")
        self.none("rule s p > p; p = p p x p p; end; rule r p > p; p = s p; p = t p; end; "
                  "rule t p > p; p = s p; end; e = s a; e = t a; e = r a")
        self.none("rule r p > p; p = s p; end; rule s p > p; p = r p; end; e = s a")

    def test_another_number_of_pegs(self):
        rule = "rule r p q > p; p = p q x p q; end; "
        for pegs in ["a", "a b c", "a a a", "a b c d", "a b a b a b a b a b a b"]:
            self.none(f"{rule}e = r {pegs}")
        self.none("rule r p > p; p = p p x p p; end; e = r a b")
        self.none("rule r p > p; p = p p x p p; end; rule s p q > p; p = r p q; end; e = s a b")
        self.none("rule r a b c d e f g h > a; a = a b x c d; end; e = r a a a a a a a a a")
        self.none("rule r a b c d e f g h > a; a = a b x c d; end; e = r a a a a a a a")

    def test_names_known_outside_within_a_rule(self):
        self.none("rule r p > o; o = p a x p p; end; e = r a")
        self.none("rule r p > o; o = p p x p d; end; e = r a")
        self.none(f"rule r p > o; o = p p x p e; end; {ROW}; f = r a")
        self.none("rule s p > p; p = p p x p p; end; rule r p > o; o = s a; end; e = r a")
        self.none("rule s q > o; o = p q x p q; end; rule r p > o; q = p p x p p; o = s q; end; e = r a")

    def test_names_known_within_a_rule_outside(self):
        self.none("rule r p > o; o = p p x p p; end; e = r a; f = p p x p p")
        self.none("rule r p > o; o = p p x p p; end; e = r a; f = o o x a a")
        self.none("rule r p > o; n = p p x p p; o = n p x p n; end; e = r a; e = r n")
        self.none("rule s q > o; o = q q x q q; end; rule r p > o; n = s p; o = q q x q q; end; e = r a")
        self.none("rule r p > o; times 1; o = n n x n n; end; end; n = a b x c d; e = r a")

    def test_a_rule_done_again_knows_nothing_of_the_first_time(self):
        rows = "times 0; n = p p x p p; end; o = n n x n n"
        self.none(f"rule r p > o; n = p p x p p; o = n n x n n; end; rule s p > o; {rows}; end; e = r a; e = s a")

    def test_an_out_that_is_not_known(self):
        self.none("rule r p > o; n = p p x p p; end; e = r a")
        self.none("rule r p > e; n = p p x p p; end; e = r a; e = r a")
        self.none(f"rule r p > e; n = p p x p p; end; {ROW}; e = r a")
        self.none("rule r p > a; n = p p x p p; end; e = r a")
        self.none("rule r p > o; times 0; o = p p x p p; end; end; e = r a")
        self.none("rule r p > o; o = p p x p p; end; rule s p > o; n = r p; end; e = s a")

    def test_the_new_is_not_known_in_its_own_row(self):
        self.none("e = a b x c e")
        self.none("rule r p > p; p = p p x p p; end; e = r e")


class TooManyRows(unittest.TestCase):
    def test_the_telling_of_counts(self):
        for many in [1, 121, 122, 4000]:
            told = Telling(FOUR, ((), begun(many)))
            self.assertEqual(told.left, 4000 - many)

    def test_the_4000th_and_the_4001st_crossing(self):
        plan, known = opened(FOUR, ((), (CROSS,) * 4000))
        self.assertEqual(len(plan), 12000)
        self.assertEqual(plan[-3:], [("line", 0, 1), ("line", 2, 3), ("peg", 7998, 7999)])
        self.assertEqual(known, dict(AT_FIRST, e=4003))
        refused(self, TooMany, opened, FOUR, ((), (CROSS,) * 4001))

    def test_rows_and_rounds_count(self):
        known = opened(FOUR, ((), begun(4000)))[1]
        self.assertEqual(known["e"], 3 + 60 * 33 + 7)
        refused(self, TooMany, opened, FOUR, ((), begun(4001)))
        refused(self, TooMany, opened, FOUR, ((), begun(4002)))

    def test_rounds_of_no_times_count_as_one_row(self):
        none = ("times", 0, (LOST, LOST))
        self.assertEqual(opened(FOUR, ((), (none,) * 4000)), ([], AT_FIRST))
        refused(self, TooMany, opened, FOUR, ((), (none,) * 4001))

    def test_each_kind_of_row_as_the_4000th_and_4001st(self):
        rule = ("r", ("a",), "a", (("times", 0, (LOST,)),))
        for row, many in [
            (CROSS, 1), (("times", 0, (LOST,)), 1), (("times", 1, (CROSS,)), 3), (("times", 2, (CROSS,)), 5),
            (("times", 2, (CROSS, CROSS)), 7), (("times", 3, (("times", 0, (LOST,)),)), 7),
            (("rule", "e", "r", ("a",)), 2), (("times", 2, (("rule", "e", "r", ("a",)),)), 7),
        ]:
            with self.subTest(row):
                self.assertEqual(len(opened(FOUR, ((rule,), begun(4000 - many) + (row,)))), 2)
                for more in range(1, many + 1):
                    refused(self, TooMany, opened, FOUR, ((rule,), begun(4000 - many + more) + (row,)))

    def test_it_goes_ahead_of_all_else_at_that_row(self):
        for row in [
            LOST, ("rule", "e", "lost", ("a",)), ("rule", "e", "r", ("q",)), ("rule", "e", "r", ("a", "b")),
            ("rule", "e", "r", ("a",)),
        ]:
            rule = ("r", ("a",), "q", (LOST,))
            with self.subTest(row):
                refused(self, NoName, opened, FOUR, ((rule,), begun(3998) + (row,)))
                refused(self, TooMany, opened, FOUR, ((rule,), begun(4000) + (row,)))

    def test_what_is_refused_first(self):
        self.assertEqual(verdict(FOUR, ((), begun(3999) + (LOST, CROSS))), "NoName")
        self.assertEqual(verdict(FOUR, ((), begun(3999) + (CROSS, LOST))), "TooMany")
        self.assertEqual(verdict(FOUR, ((), (LOST,) + begun(5000))), "NoName")
        self.assertEqual(verdict(FOUR, ((), begun(5000) + (LOST,))), "TooMany")

    def test_the_names_of_a_rules_row_go_ahead_of_its_rows(self):
        rule = ("r", ("a",), "a", begun(4001))
        self.assertEqual(verdict(FOUR, ((rule,), (("rule", "e", "r", ("a",)),))), "NoName")
        sure = ("r", ("a", "b", "c", "d"), "a", begun(4000))
        self.assertEqual(verdict(FOUR, ((sure,), (("rule", "e", "r", tuple(FOUR)),))), "TooMany")
        self.assertEqual(verdict(FOUR, ((sure,), (("rule", "e", "r", ("a", "b", "c", "q")),))), "NoName")
        self.assertEqual(verdict(FOUR, ((sure,), (("rule", "e", "r", ("a", "b", "c")),))), "NoName")
        self.assertEqual(verdict(FOUR, ((sure,), (("rule", "e", "s", tuple(FOUR)),))), "NoName")

    def test_an_out_is_looked_at_at_its_rules_end(self):
        full = ("r", ("a", "b", "c", "d"), "q", begun(3999))
        over = ("r", ("a", "b", "c", "d"), "q", begun(4000))
        row = ("rule", "e", "r", tuple(FOUR))
        self.assertEqual(verdict(FOUR, ((full,), (row,))), "NoName")
        self.assertEqual(verdict(FOUR, ((full,), (row, CROSS))), "NoName")
        self.assertEqual(verdict(FOUR, ((over,), (row,))), "TooMany")

    def test_a_round_goes_ahead_of_its_rows(self):
        self.assertEqual(verdict(FOUR, ((), begun(3999) + (("times", 1, (LOST,)),))), "TooMany")
        self.assertEqual(verdict(FOUR, ((), begun(3998) + (("times", 1, (LOST,)),))), "TooMany")
        self.assertEqual(verdict(FOUR, ((), begun(3997) + (("times", 1, (LOST,)),))), "NoName")

    def test_no_end_of_rounds(self):
        for text in [
            "times 60; times 60; times 60; times 60; e = a b x c d; end; end; end; end",
            "times 60; times 60; times 60; times 0; e = a b x c d; end; end; end; end",
            "rule r a b > a; a = a b x b a; end; times 60; times 60; e = r a b; end; end",
        ]:
            refused(self, TooMany, opened, FOUR, read_drawing(text))

    def test_rules_that_double_twenty_times(self):
        rules = ["rule a p > p; p = p p x p p; end"]
        for above, name in zip("abcdefghijklmnopqrs", "bcdefghijklmnopqrst"):
            rules.append(f"rule {name} p > p; p = {above} p; p = {above} p; end")
        for name, many in [("a", 2), ("j", 1535), ("k", 3071)]:
            told = Telling(FOUR, read_drawing("; ".join(rules + [f"e = {name} a"])))
            self.assertEqual(4000 - told.left, many)
            self.assertEqual(opened(FOUR, read_drawing("; ".join(rules + [f"e = {name} a"]))), (told.plan, told.known))
        for name in "lmt":
            refused(self, TooMany, opened, FOUR, read_drawing("; ".join(rules + [f"e = {name} a"])))


class AgainstTheWords(unittest.TestCase):
    def test_many_drawings(self):
        seen = {"NoName": 0, "TooMany": 0, "plan": 0}
        for drawing in some_drawings(4000):
            right = right_verdict(FOUR, drawing)
            self.assertEqual(verdict(FOUR, drawing), right, drawing)
            seen[right if isinstance(right, str) else "plan"] += 1
        for many in seen.values():
            self.assertGreater(many, 80, seen)


class NothingIsKept(unittest.TestCase):
    text = "rule r p > p; p = p p x p p; end; times 2; e = r a; end; a = e e x e e"

    def test_what_was_handed_in_is_as_before(self):
        names, drawing = list(FOUR), read_drawing(self.text)
        before = copy.deepcopy(drawing)
        right = opened(names, drawing)
        self.assertEqual((names, drawing), (FOUR, before))
        self.assertEqual(opened(names, drawing), right)

    def test_told_ones_are_the_askers_own(self):
        names, drawing = list(FOUR), read_drawing(self.text)
        right = copy.deepcopy(opened(names, drawing))
        told = opened(names, drawing)
        told[0].clear()
        told[1].clear()
        self.assertEqual(names, FOUR)
        self.assertEqual(opened(names, drawing), right)

    def test_what_is_done_later_changes_nothing_told(self):
        names, drawing = list(FOUR), read_drawing(self.text)
        told = opened(names, drawing)
        right = copy.deepcopy(told)
        refused(self, NoName, opened, names, (drawing[0], (CROSS, LOST)))
        refused(self, TooMany, opened, names, ((), begun(4001)))
        names.clear()
        self.assertEqual(told, right)
        self.assertEqual(opened(FOUR, drawing), right)


if __name__ == "__main__":
    unittest.main()
