"""Points 12 and 13: names, and drawings read and written."""

import itertools
import random
import re
import string
import unittest

from chalkline.drawings import is_name, read_drawing, shown_drawing
from chalkline.errors import NoText
from helper import OTHER_THINGS, refused

ROW = "e = a b x c d"
ROW_TOLD = ("cross", "e", "a", "b", "c", "d")
NAMES = ["a", "z", "ab", "abcdefgh", "zzzzzzzz", "xx", "xa", "ax", "rules", "arule", "rul", "time", "timesx", "ends", "en",
         "line", "peg", "cross", "none", "is"]
NO_NAMES = [
    "", "abcdefghi", "abcdefghijklmnop", "x", "rule", "times", "end", "A", "Z", "aB", "Ab", "ABC", "X", "Rule", "END", "1",
    "0", "a1", "1a", "a_", "_", "_a", "a-b", "a b", " a", "a ", " ", "a\n", "\na", "a\t", "a.", "a;", ";", "=", ">", "a=", "`",
    "{", "@", "[", "a{", "a`", "\x00", "\u00e4", "\u00df", "\u0430", "a\u0301", "\u00aa", "\uff41",
]

NAME = r"(?:(?!(?:x|rule|times|end)(?![a-z]))[a-z]{1,8}(?![a-z]))"
NUMBER = r"(?:[0-9]|[1-5][0-9]|60)"


def rows_pattern(within):
    """Point 12's rows as one pattern, so many rounds within one another at most."""
    row = rf"{NAME} = {NAME} {NAME} x {NAME} {NAME}|{NAME} = {NAME}(?: {NAME})+"
    if within > 0:
        row += rf"|times {NUMBER}; {rows_pattern(within - 1)}; end"
    return rf"(?:{row})(?:; (?:{row}))*"


RULE = rf"rule {NAME}(?: {NAME}){{1,8}} > {NAME}; {rows_pattern(4)}; end; "
DRAWING = re.compile(rf"(?:{RULE}){{0,20}}{rows_pattern(4)}")
HEAD = re.compile(r"(?:\A|; )rule ([a-z]+)((?: [a-z]+)+) >")


def writes_drawing(text):
    """Point 12 by patterns."""
    if not DRAWING.fullmatch(text):
        return False
    heads = HEAD.findall(text)
    names = [name for name, params in heads]
    if len(set(names)) < len(names):
        return False
    return all(len(set(params.split())) == len(params.split()) for name, params in heads)


def some_rows(chance, within):
    rows = []
    for turn in range(chance.randrange(1, 4)):
        kind = chance.choice(["cross", "cross", "rule", "times"] if within < 4 else ["cross", "rule"])
        names = [chance.choice(NAMES) for number in range(chance.randrange(3, 12))]
        if kind == "cross":
            rows.append(("cross",) + tuple(chance.choice(NAMES) for number in range(5)))
        elif kind == "rule":
            rows.append(("rule", names[0], names[1], tuple(names[2:])))
        else:
            rows.append(("times", chance.randrange(61), some_rows(chance, within + 1)))
    return tuple(rows)


def some_drawings(many):
    """Drawings of all kinds of rows, the same ones at each run."""
    chance = random.Random(many)
    for turn in range(many):
        rules = []
        for name in chance.sample(NAMES, chance.choice([0, 0, 1, 2, 5])):
            params = tuple(chance.sample(NAMES, chance.randrange(1, 9)))
            rules.append((name, params, chance.choice(NAMES), some_rows(chance, 0)))
        yield (tuple(rules), some_rows(chance, 0))


def row_texts(rows):
    for row in rows:
        if row[0] == "cross":
            yield "{} = {} {} x {} {}".format(*row[1:])
        elif row[0] == "rule":
            yield "{} = {} {}".format(row[1], row[2], " ".join(row[3]))
        else:
            yield f"times {row[1]}"
            yield from row_texts(row[2])
            yield "end"


def text_of(drawing):
    """The text of a drawing, written here once more."""
    pieces = []
    for name, params, out, rows in drawing[0]:
        pieces += [f"rule {name} {' '.join(params)} > {out}"] + list(row_texts(rows)) + ["end"]
    return "; ".join(pieces + list(row_texts(drawing[1])))


def rules_text(many):
    """So many rules and a row."""
    names = ["".join(pair) for pair in itertools.product("abcdefg", repeat=2)][:many]
    return "".join(f"rule {name} a b c > e; e = a b x a c; end; " for name in names) + ROW


def kinds_told(thing):
    """The kinds of a told tuple and of all that it holds."""
    kinds = {type(thing)}
    if isinstance(thing, tuple):
        for inner in thing:
            kinds |= kinds_told(inner)
    return kinds


class Names(unittest.TestCase):
    def test_names(self):
        for name in NAMES + list(string.ascii_lowercase.replace("x", "")):
            with self.subTest(name):
                self.assertIs(is_name(name), True)

    def test_of_each_length(self):
        for many in range(20):
            self.assertIs(is_name("a" * many), 1 <= many <= 8)

    def test_what_is_none(self):
        for thing in NO_NAMES + OTHER_THINGS + [[], ["a"], bytearray(b"a"), object()]:
            with self.subTest(repr(thing)):
                self.assertIs(is_name(thing), False)

    def test_each_sign(self):
        for number in range(300):
            right = chr(number) in string.ascii_lowercase
            self.assertIs(is_name("b" + chr(number)), right)
            self.assertIs(is_name(chr(number) + "b"), right)


class Told(unittest.TestCase):
    """The tuples of good texts, and the texts of these tuples."""

    def told(self, text, drawing):
        with self.subTest(text):
            self.assertEqual(read_drawing(text), drawing)
            self.assertEqual(kinds_told(read_drawing(text)) - {int}, {tuple, str})
            self.assertEqual(shown_drawing(drawing), text)
            self.assertIs(type(shown_drawing(drawing)), str)

    def test_crossings(self):
        self.told(ROW, ((), (ROW_TOLD,)))
        self.told("a = a a x a a", ((), (("cross", "a", "a", "a", "a", "a"),)))
        self.told("line = peg cross x xx ends", ((), (("cross", "line", "peg", "cross", "xx", "ends"),)))
        self.told("; ".join([ROW] * 3), ((), (ROW_TOLD,) * 3))

    def test_rules_done(self):
        self.told("e = r a", ((), (("rule", "e", "r", ("a",)),)))
        self.told("e = r a b", ((), (("rule", "e", "r", ("a", "b")),)))
        self.told("e = r a b c d", ((), (("rule", "e", "r", ("a", "b", "c", "d")),)))
        self.told("e = r a a a a a", ((), (("rule", "e", "r", ("a",) * 5),)))
        self.told("r = r r r", ((), (("rule", "r", "r", ("r", "r")),)))
        self.told("e = r" + " a" * 40, ((), (("rule", "e", "r", ("a",) * 40),)))

    def test_rounds(self):
        for number in range(61):
            self.told(f"times {number}; {ROW}; end", ((), (("times", number, (ROW_TOLD,)),)))
        self.told(
            f"{ROW}; times 3; {ROW}; f = r a; end; {ROW}; times 0; g = r b; end",
            ((), (ROW_TOLD, ("times", 3, (ROW_TOLD, ("rule", "f", "r", ("a",)))), ROW_TOLD,
                  ("times", 0, (("rule", "g", "r", ("b",)),)))),
        )

    def test_rounds_within_one_another(self):
        four = f"times 1; times 2; times 3; times 4; {ROW}; end; end; end; end"
        told = ("times", 1, (("times", 2, (("times", 3, (("times", 4, (ROW_TOLD,)),)),)),))
        self.told(four, ((), (told,)))
        self.told(f"{four}; {four}", ((), (told, told)))
        self.told(f"rule r a > b; {four}; end; {four}", ((("r", ("a",), "b", (told,)),), (told,)))
        side = "; ".join([f"times 1; {ROW}; end"] * 9)
        self.told(f"times 1; times 2; times 3; {side}; end; end; end", ((), (
            ("times", 1, (("times", 2, (("times", 3, (("times", 1, (ROW_TOLD,)),) * 9),)),)),
        )))

    def test_rules(self):
        self.told(f"rule r a b c d > e; {ROW}; end; f = r a b c d", (
            (("r", ("a", "b", "c", "d"), "e", (ROW_TOLD,)),), (("rule", "f", "r", ("a", "b", "c", "d")),),
        ))
        self.told(f"rule r r > r; r = r r x r r; end; {ROW}", (
            (("r", ("r",), "r", (("cross", "r", "r", "r", "r", "r"),)),), (ROW_TOLD,),
        ))
        self.told(f"rule r a > zz; {ROW}; e = s a; end; rule s a > a; times 2; {ROW}; end; end; {ROW}; {ROW}", (
            (("r", ("a",), "zz", (ROW_TOLD, ("rule", "e", "s", ("a",)))),
             ("s", ("a",), "a", (("times", 2, (ROW_TOLD,)),))),
            (ROW_TOLD, ROW_TOLD),
        ))

    def test_one_to_eight_params(self):
        for many in range(1, 9):
            params = "abcdefgh"[:many]
            self.told(f"rule r {' '.join(params)} > e; {ROW}; end; {ROW}", (
                (("r", tuple(params), "e", (ROW_TOLD,)),), (ROW_TOLD,),
            ))

    def test_twenty_rules(self):
        for many in [0, 1, 2, 19, 20]:
            drawing = read_drawing(rules_text(many))
            self.assertEqual(len(drawing[0]), many)
            self.assertEqual(len(set(rule[0] for rule in drawing[0])), many)
            self.assertEqual(drawing[1], (ROW_TOLD,))
            self.assertEqual(shown_drawing(drawing), rules_text(many))

    def test_what_is_known_is_not_looked_at(self):
        for text in ["e = r a", f"rule r a > q; e = r a; end; {ROW}", "e = e e x e e"]:
            self.assertEqual(shown_drawing(read_drawing(text)), text)

    def test_a_long_one(self):
        text = "; ".join([ROW] * 1300)
        self.told(text, ((), (ROW_TOLD,) * 1300))

    def test_names_of_eight_letters_at_each_place(self):
        for text in ["{} = a b x c d", "e = {} b x c d", "e = a b x c {}", "e = {} a", "e = r {}", "e = r a {}"]:
            for name in NAMES:
                self.assertEqual(shown_drawing(read_drawing(text.format(name))), text.format(name))


class EitherWay(unittest.TestCase):
    def test_read_and_written(self):
        for drawing in some_drawings(300):
            text = text_of(drawing)
            self.assertTrue(writes_drawing(text))
            self.assertEqual(read_drawing(text), drawing)
            self.assertEqual(shown_drawing(drawing), text)
            self.assertEqual(read_drawing(text), drawing)

    def test_texts_that_were_changed_a_little(self):
        chance = random.Random(8)
        words = ["end", "times", "times 2", "rule", "x", "=", ">", "a", "e = a b", ROW, "rule q a > a", "0", "61", "Q", ""]
        good = 0
        bad = 0
        for drawing in some_drawings(400):
            parts = re.split(r"( |; )", text_of(drawing))
            for turn in range(6):
                some = list(parts)
                at = chance.randrange(len(some))
                deed = chance.randrange(4)
                if deed == 0:
                    some[at] = chance.choice(words)
                elif deed == 1:
                    some[at:at + 2] = []
                elif deed == 2:
                    some.insert(at, chance.choice([" ", "; ", "a", "; end; ", f"; {ROW}; "]))
                else:
                    other = chance.randrange(len(some))
                    some[at], some[other] = some[other], some[at]
                text = "".join(some)
                if writes_drawing(text):
                    good += 1
                    self.assertEqual(shown_drawing(read_drawing(text)), text)
                else:
                    bad += 1
                    with self.assertRaises(NoText, msg=text):
                        read_drawing(text)
        self.assertGreater(good, 200)
        self.assertGreater(bad, 500)


class NoDrawings(unittest.TestCase):
    def none(self, *texts):
        for text in texts:
            with self.subTest(repr(text)):
                refused(self, NoText, read_drawing, text)

    def test_things_that_are_no_text(self):
        self.none(*OTHER_THINGS, [], [ROW], ((), (ROW_TOLD,)), bytearray(b"e = a b x c d"))

    def test_no_rows_at_all(self):
        self.none("", " ", ";", "; ", "end", "x", "a", "=", "end; end", "rule", "times", "times 1", "times 1; end")

    def test_blanks_and_parts(self):
        self.none(
            " " + ROW, ROW + " ", ROW + ";", ROW + "; ", "; " + ROW, ";" + ROW, f"{ROW};{ROW}", f"{ROW} ; {ROW}",
            f"{ROW};  {ROW}", f"{ROW}; ; {ROW}", f"{ROW}\n{ROW}", f"{ROW};\n{ROW}", ROW + "\n", "\n" + ROW, ROW + "\t",
            ROW.replace(" ", "\t"), ROW.replace(" ", "  "), f"{ROW}, {ROW}", f"{ROW} {ROW}", f"{ROW};; {ROW}",
            f"times 1;{ROW}; end", f"times 1; {ROW};end", f"times 1 ; {ROW}; end", f"times  1; {ROW}; end",
            f"times 1; {ROW}; end ", f"times 1; {ROW};  end", f"times 1 {ROW} end", "e = r  a", "e = r a ", "e  = r a",
            f"rule r a > b; {ROW}; end;{ROW}", f"rule  r a > b; {ROW}; end; {ROW}", f"rule r  a > b; {ROW}; end; {ROW}",
            f"rule r a >  b; {ROW}; end; {ROW}", f"rule r a > b ; {ROW}; end; {ROW}", f" rule r a > b; {ROW}; end; {ROW}",
        )

    def test_crossings(self):
        self.none(
            "e = a b x c", "e = a b x", "e = a x c d", "e = x c d", "e = a b x c d f", "e = a b c x d", "e = a x b c d",
            "e = a b f x c d", "e a b x c d", "= a b x c d", "e = = a b x c d", "e == a b x c d", "e: a b x c d",
            "e = a b X c d", "e = a b = c d", "e = a b * c d", "e = a b x x d", "e = a x x c d", "e = x b x c d",
            "e = a b x c x", "x = a b x c d", "e=a b x c d", "e = a,b x c,d", "a b x c d", "e > a b x c d",
        )

    def test_rules_done(self):
        self.none(
            "e", "e =", "e = ", "e = r", "e r a", "= r a", "e = = a", "e = r = a", "e = r a =", "e = r > a", "e == r a",
            "e = r x", "e = x a", "x = r a", "e = r a x", "e = r a x b", "e := r a", "e = r; a", "e = r(a)", "r a b",
            "e > r a", "e = r a b x", "e = r x a b", "e = r a b c d x e",
        )

    def test_a_name_that_is_none_at_each_place(self):
        for text in [
            "{} = a b x c d", "e = {} b x c d", "e = a {} x c d", "e = a b x {} d", "e = a b x c {}",
            "{} = r a b", "e = {} a b", "e = r {} b", "e = r a {}", "e = r a {} c",
            "rule {} a b > c; c = a b x a b; end; e = a b x c d", "rule r {} b > c; c = a b x a b; end; e = a b x c d",
            "rule r a {} > c; c = a b x a b; end; e = a b x c d", "rule r a b > {}; c = a b x a b; end; e = a b x c d",
            "rule r a b > c; {} = a b x a b; end; e = a b x c d", "rule r a b > c; c = a {} x a b; end; e = a b x c d",
            "rule r a b > c; c = r {}; end; e = a b x c d", "times 1; {} = a b x c d; end", "times 1; e = {} a; end",
        ]:
            self.assertEqual(shown_drawing(read_drawing(text.format("q"))), text.format("q"))
            # Two names in the stead of one may well write another row.
            self.none(*[text.format(name) for name in NO_NAMES if name != "a b"])

    def test_rounds(self):
        self.none(
            f"times; {ROW}; end", f"times 61; {ROW}; end", f"times 62; {ROW}; end", f"times 100; {ROW}; end",
            f"times 600; {ROW}; end", f"times {10 ** 59}; {ROW}; end", f"times 00; {ROW}; end", f"times 01; {ROW}; end",
            f"times 060; {ROW}; end", f"times 007; {ROW}; end", f"times -1; {ROW}; end", f"times -0; {ROW}; end",
            f"times +1; {ROW}; end", f"times 1.0; {ROW}; end", f"times a; {ROW}; end", f"times x; {ROW}; end",
            f"times 1 1; {ROW}; end", f"times 1 {ROW}; end", f"times 6_0; {ROW}; end", f"times \u0661; {ROW}; end",
            f"times \u00b2; {ROW}; end", f"times ; {ROW}; end", f"times  1; {ROW}; end", f"Times 1; {ROW}; end",
            f"time 1; {ROW}; end", f"times 1\n; {ROW}; end", "times = a b x c d", "times = r a", "times 1 = r a",
            "times 0; end", "times 1; times 1; end; end", f"{ROW}; times 1; end", f"times 1; {ROW}; times 1; end; end",
            f"times 1; times 1; end; {ROW}; end", f"rule r a > b; times 1; end; end; {ROW}",
        )

    def test_five_within_one_another(self):
        for many in [5, 6, 9, 400]:
            deep = "times 0; " * many + ROW + "; end" * many
            self.none(deep, f"{ROW}; {deep}", f"rule r a > b; {deep}; end; {ROW}")
        self.none("times 1; " * 2200 + ROW)
        self.none(f"times 1; times 1; {ROW}; times 1; times 1; {ROW}; times 1; {ROW}; end; end; end; end; end")

    def test_ends(self):
        rule = f"rule r a > b; {ROW}; end"
        self.none(
            f"times 1; {ROW}", f"times 1; times 1; {ROW}; end", f"times 1; {ROW}; end; end", f"{ROW}; end", f"end; {ROW}",
            f"{ROW}; end; {ROW}", f"times 1; {ROW}; end 1", f"times 1; {ROW}; ends", f"times 1; {ROW}; End",
            f"times 1; {ROW}; end times", f"times 1; {ROW} end", f"times 1; {ROW}; end; end; {ROW}", f"{rule}; end; {ROW}",
            f"rule r a > b; {ROW}; {ROW}", f"rule r a > b; {ROW}", f"rule r a > b; times 1; {ROW}; end; {ROW}",
            f"{rule}; {ROW}; end", f"rule r a > b; {ROW}; end r; {ROW}", f"rule r a > b; {ROW}; rule s a > b; {ROW}; end",
            "end = a b x c d", "end = r a",
        )

    def test_rules(self):
        self.none(*[f"{head}; {ROW}; end; {ROW}" for head in [
            "rule", "rule r", "rule r a", "rule r a >", "rule r > b", "rule > b", "rule r a b", "rule r a b c d e",
            "rule a > b", "rule r a > b c", "rule r a > > b", "rule r > a > b", "rule r a < b", "rule r a = b",
            "rule r a >b", "rule r a> b", "rule r = a > b", "rule r a - > b", "Rule r a > b", "rules r a > b", "r a > b",
            "rule r a a > b", "rule r a b a > b", "rule r b a a > b", "rule r a b c d e f g h i > a",
            "rule r a b c d e f g a > b", "rule r a b c d e f g h i j k > a", "rule r a > b > c", "rule r (a) > b",
        ]])

    def test_one_name_twice(self):
        rule = "rule {} a > b; b = a a x a a; end; "
        for names in ["rr", "rsr", "rss", "rsts", "abcdefghijkmnopqrsta"]:
            self.none("".join(rule.format(name) for name in names) + ROW)
        self.none(f"rule r a > b; {ROW}; end; rule r a b c > d; {ROW}; end; {ROW}")

    def test_rules_without_rows_and_in_wrong_places(self):
        rule = f"rule r a > b; {ROW}; end"
        self.none(
            f"rule r a > b; end; {ROW}", f"{rule}; rule s a > b; end; {ROW}", f"rule r a > b; end; {rule}; {ROW}",
            rule, f"{rule}; rule s a > b; {ROW}; end", f"{rule}; times 1; end", f"{ROW}; {rule}", f"{ROW}; {rule}; {ROW}",
            f"times 1; {rule}; {ROW}; end", f"times 1; {rule}; end", f"rule s a > b; {rule}; {ROW}; end; {ROW}",
            f"rule s a > b; {ROW}; {rule}; end; {ROW}", f"{rule}; {ROW}; rule s a > b; {ROW}; end; {ROW}",
            f"times 1; {ROW}; end; {rule}; {ROW}",
        )

    def test_twenty_one_rules(self):
        for many in [21, 22, 40]:
            self.none(rules_text(many))


class NothingIsKept(unittest.TestCase):
    def test_asked_again(self):
        text = f"rule r a > b; {ROW}; end; times 2; {ROW}; end"
        right = read_drawing(text)
        refused(self, NoText, read_drawing, text + "; end")
        self.assertEqual(read_drawing(text), right)
        self.assertEqual(shown_drawing(right), text)
        self.assertEqual(shown_drawing(right), text)
        self.assertEqual(right, read_drawing(text))


if __name__ == "__main__":
    unittest.main()
