"""Point 11: plans written and read."""

import copy
import itertools
import random
import re
import unittest

from chalkline.errors import NoText
from chalkline.plans import walked
from chalkline.texts import read, shown
from helper import BIG, BIGGEST, OTHER_THINGS, SQUARE, refused

WRITTEN = [
    ([], ""),
    ([("line", 0, 1)], "line 0 1"),
    ([("peg", 0, 1)], "peg 0 1"),
    ([("line", 0, 0)], "line 0 0"),
    ([("line", 10, 9)], "line 10 9"),
    ([("peg", 100, 2030)], "peg 100 2030"),
    ([("line", 0, 1), ("line", 2, 3), ("peg", 0, 1)], "line 0 1; line 2 3; peg 0 1"),
    ([("peg", 7, 8), ("peg", 7, 8), ("line", 5, 5)], "peg 7 8; peg 7 8; line 5 5"),
    ([("line", BIG, BIGGEST)], f"line {BIG} {BIGGEST}"),
    ([("peg", 1234567890, 9876543210)], "peg 1234567890 9876543210"),
]
NO_DEEDS = [
    " ", ";", "; ", ";;", ";  ", "x", "line", "peg", "line 0", "peg 0", "line 0 1 2", "peg 0 1 2", "line 0 1 line", "0 1",
    "0 line 1", "0 1 line", "lines 0 1", "Line 0 1", "LINE 0 1", "Peg 0 1", "pegs 0 1", "cross 0 1", "lin 0 1", "l 0 1",
    "line a b", "line 0 b", "line a 1", "line 0,1", "line (0 1)", "line 0 1.", "line 0 1,", "line 0 1.0", "peg 1e1 0",
    "line 00 1", "line 0 00", "line 01 2", "line 2 01", "peg 007 1", "peg 1 007", "line +1 2", "line 2 +1", "line -1 2",
    "line 2 -1", "peg -0 1", "peg 1 -0", "peg +0 1", "line 1_0 2", "line 2 1_0", "line 0x1 2", "line 0b1 2", "line 0 1'",
    "line  0 1", "line 0  1", " line 0 1", "line 0 1 ", "  line 0 1", "line 0 1  ", "line 0 ", "line  1", "line   ",
    "line 0 1\n", "\nline 0 1", "line\n0 1", "line 0\n1", "line 0 1\r\n", "line\t0 1", "line 0\t1", "\tline 0 1",
    "line 0 1\t", "line 0 1\x0b", "line 0 1\x0c", "line 0 1\x00", "line 0\xa01", "line\u20030 1",
    "line \u0660 1", "line 0 \u0661", "line \u00b2 1", "line 0 \uff11", "line 0 1\u0662", "l\u0131ne 0 1", "peg \u2460 1",
    "line 0 1;", "line 0 1; ", "; line 0 1", ";line 0 1", " ; line 0 1", "line 0 1 ;", "line 0 1;line 2 3",
    "line 0 1 ; line 2 3", "line 0 1;  line 2 3", "line 0 1; ; line 2 3", "line 0 1;; line 2 3", "line 0 1, line 2 3",
    "line 0 1 line 2 3", "line 0 1\nline 2 3", "line 0 1;\nline 2 3", "line 0 1;\tline 2 3", "line 0 1: line 2 3",
    "line 0 1; line 2", "line 0 1; line 2 3 4", "line 0; line 2 3", "line 0 1; line 02 3", "line 00 1; line 2 3",
    "line 0 1; peg 0 -1", "line 0 1; other 0 1", "[]", "[('line', 0, 1)]", "('line', 0, 1)", "None", "0", "1",
]


class Shown(unittest.TestCase):
    def test_told_ones(self):
        for plan, text in WRITTEN:
            with self.subTest(text):
                self.assertEqual(shown(plan), text)
                self.assertIs(type(shown(plan)), str)

    def test_what_was_handed_in_is_as_before(self):
        for plan, text in WRITTEN:
            before = copy.deepcopy(plan)
            shown(plan)
            self.assertEqual(plan, before)
            self.assertEqual(shown(plan), text)


class Read(unittest.TestCase):
    def test_told_ones(self):
        for plan, text in WRITTEN:
            with self.subTest(text):
                told = read(text)
                self.assertEqual(told, plan)
                self.assertIs(type(told), list)
                for deed in told:
                    self.assertEqual([type(part) for part in (deed,) + deed], [tuple, str, int, int])

    def test_which_numbers_there_are_is_not_looked_at(self):
        self.assertEqual(read("peg 5 5; line 99 99"), [("peg", 5, 5), ("line", 99, 99)])

    def test_each_number_of_few_figures(self):
        for number in itertools.chain(range(1200), [10 ** k for k in range(60)], [10 ** k - 1 for k in range(1, 61)]):
            plan = [("line", number, 0), ("peg", 3, number)]
            self.assertEqual(read(f"line {number} 0; peg 3 {number}"), plan)
            self.assertEqual(shown(plan), f"line {number} 0; peg 3 {number}")

    def test_written_and_read_again(self):
        chance = random.Random(5)
        for many in [0, 1, 2, 3, 10, 300]:
            plan = [
                (chance.choice(["line", "peg"]), chance.randrange(10 ** chance.randrange(1, 60)), chance.randrange(12))
                for turn in range(many)
            ]
            text = "; ".join(f"{kind} {one} {other}" for kind, one, other in plan)
            self.assertEqual(shown(plan), text)
            self.assertEqual(read(text), plan)

    def test_a_text_that_is_read_is_walked(self):
        pegs, lines = walked(SQUARE, read("line 0 3; line 1 2; peg 0 1"))
        self.assertEqual(pegs[4], (1, 1, 2))
        self.assertEqual(len(lines), 2)

    def test_each_told_list_is_new(self):
        for text in ["", "line 0 1", "line 0 1; peg 2 3"]:
            right = read(text)
            told = read(text)
            told.append("mark")
            self.assertEqual(read(text), right)
            refused(self, NoText, read, text + ";")
            self.assertEqual(read(text), right)


class NoTexts(unittest.TestCase):
    def test_texts_that_write_no_plan(self):
        for text in NO_DEEDS:
            with self.subTest(repr(text)):
                refused(self, NoText, read, text)

    def test_the_same_behind_and_ahead_of_a_deed(self):
        for text in NO_DEEDS:
            with self.subTest(repr(text)):
                refused(self, NoText, read, "peg 0 1; " + text)
                refused(self, NoText, read, text + "; peg 0 1")

    def test_each_sign_at_each_side_of_a_figure(self):
        for number in range(300):
            for word in [chr(number) + "7", "7" + chr(number)]:
                with self.subTest(repr(word)):
                    if word in [str(n) for n in range(100)]:
                        self.assertEqual(read(f"line {word} 2; peg 3 {word}"), [("line", int(word), 2), ("peg", 3, int(word))])
                    else:
                        refused(self, NoText, read, f"line {word} 2")
                        refused(self, NoText, read, f"peg 3 {word}")

    def test_things_that_are_no_text(self):
        plan = [("line", 0, 1)]
        for thing in OTHER_THINGS + [[], ["line 0 1"], plan, ["line", "0", "1"], [""], bytearray(b"line 0 1")]:
            with self.subTest(repr(thing)):
                refused(self, NoText, read, thing)

    def test_all_short_texts_of_few_signs(self):
        deed = re.compile(r"(line|peg) (0|[1-9][0-9]*) (0|[1-9][0-9]*)")
        pieces = ["line", "peg", " ", ";", "0", "1", "-"]
        found = 0
        for many in range(7):
            for some in itertools.product(pieces, repeat=many):
                text = "".join(some)
                if text == "" or deed.fullmatch(text):
                    self.assertEqual(shown(read(text)), text)
                    found += 1
                else:
                    with self.assertRaises(NoText, msg=text):
                        read(text)
        self.assertGreater(found, 20)


if __name__ == "__main__":
    unittest.main()
