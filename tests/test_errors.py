"""The interface, chalkline/errors.py: the refusals and their values."""

import unittest

from chalkline import errors
from chalkline.errors import ChalkError, NoDeed, Same

OF_A_TEXT = [
    "NoPlace", "NoFloor", "Endless", "NoText", "NoName", "TooMany", "NoChange",
    "NoFrame", "NoValue", "Unlike", "NoRatio", "NoBow", "NoRow",
]
ALL = OF_A_TEXT + ["Same", "NoDeed"]


class TheClasses(unittest.TestCase):
    def test_there_are_fifteen(self):
        self.assertEqual(len(ALL), 15)
        found = [
            name for name, thing in vars(errors).items()
            if isinstance(thing, type) and issubclass(thing, ChalkError) and thing is not ChalkError
        ]
        self.assertEqual(sorted(found), sorted(ALL))

    def test_any_refusal_is_a_value_error(self):
        self.assertEqual(ChalkError.__bases__, (ValueError,))

    def test_each_is_straight_under_the_one(self):
        for name in ALL:
            with self.subTest(name):
                self.assertEqual(getattr(errors, name).__bases__, (ChalkError,))

    def test_none_is_under_another(self):
        for name in ALL:
            for other in ALL:
                if name != other:
                    with self.subTest(name=name, other=other):
                        self.assertFalse(issubclass(getattr(errors, name), getattr(errors, other)))

    def test_made_of_a_text(self):
        for name in OF_A_TEXT:
            with self.subTest(name):
                made = getattr(errors, name)("some words")
                self.assertIsInstance(made, ChalkError)
                self.assertEqual(str(made), "some words")

    def test_each_can_be_raised_and_taken(self):
        for name in ALL:
            with self.subTest(name):
                with self.assertRaises(ChalkError):
                    raise getattr(errors, name)("words")


class TheValueAt(unittest.TestCase):
    def test_same(self):
        self.assertIsNone(Same().at)
        self.assertIsNone(Same(None).at)
        self.assertEqual(Same(0).at, 0)
        self.assertEqual(Same(at=7).at, 7)

    def test_no_deed(self):
        self.assertEqual(NoDeed(0).at, 0)
        self.assertEqual(NoDeed(at=7).at, 7)

    def test_no_deed_needs_it(self):
        with self.assertRaises(TypeError):
            NoDeed()


if __name__ == "__main__":
    unittest.main()
