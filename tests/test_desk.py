"""Points 27 and 28: rows told to a desk, its answers and its refusals."""

import itertools
import random
import unittest
from fractions import Fraction

from chalkline.bows import again
from chalkline.desk import Desk
from chalkline.drawings import read_drawing
from chalkline.errors import (
    ChalkError, NoBow, NoFloor, NoFrame, NoName, NoRatio, NoRow, NoText, Same, TooMany, Unlike,
)
from chalkline.opening import opened
from chalkline.pictures import held
from chalkline.plans import walked
from chalkline.ratios import ratio
from chalkline.wishes import plan_for
from helper import (
    BIG, BIGGEST, FAR_OFF, OTHER_THINGS, ROW, SQUARE, STANDARD, TIP, cross, first_frame, from_frame, in_form, small_places,
    some_changes, sums, volume,
)

NAMES = ["a", "b", "c", "d", "e", "f", "g", "h", "i", "j", "k", "l"]
CIRCLE = [(1, 0, 1), (0, 1, 1), (-1, 0, 1), (0, -1, 1), (3, 4, 5)]
# Words that are no names, none of them with a blank.
NO_NAMES = [
    "", "x", "rule", "times", "end", "A", "aB", "a1", "1", "-", "a-b", "a_b", "_", "abcdefghi", "abcdefghijklmnop",
    "a.", "a;", "a,b",
    "=", "a\n", "\na", "a\t", "\ta", "a\nb", "a\tb", "a\r", "0,0,1",
]
# Words that are names, though they are also the first words of rows.
WORDS = ["peg", "take", "cross", "pegs", "where", "kind", "draw", "wish", "on", "ratio", "bow", "keep", "like", "ok", "xx", "abcdefgh"]
# Words that write no place.
NO_PLACES = [
    "", ",", ",,", "0", "0,1", "0,0,1,1", "0,0,1,", ",0,0,1", "0,,1", "0,0,", ",0,1", "0,0,0", "2,0,0", "0,0,2",
    "2,4,6", "0,0,-1",
    "1,-1,0", "-1,0,0", "1,1,-1", "-1,-1,-1", "2,2,0", "00,0,1", "0,00,1", "0,0,01", "01,0,1", "-01,0,1", "+1,0,1",
    "1,+1,1",
    "1,1,+1", "-0,0,1", "0,-0,1", "1,0,-0", "--1,0,1", "-,0,1", "1-,0,1", "-\t1,0,1", "1.0,0,1", "1e1,0,1", "1_0,0,1",
    "a,b,c", "a", "0;0;1", "(0,0,1)", "0,0,1\n", "\n0,0,1", "0,\t0,1", "0,0,1\t", "0x1,0,1", "-,-,-", "0,0,1,0",
    "1/2,0,1", "1,0,x",
]
NOTHING = "-"


def written(place):
    return "{},{},{}".format(*place)


def desk_of(places, names=NAMES):
    """A desk with pegs at these places."""
    desk = Desk()
    for name, place in zip(names, places):
        assert desk.say("peg " + name + " " + written(place)) == "ok"
    return desk


def said(desk, row):
    """The answer to a row, or the class with which it is refused."""
    try:
        return desk.say(row)
    except ChalkError as error:
        return type(error)


def seen(desk, pictures=()):
    """What can be seen of a desk: its pegs in order, their places, and how its pictures are like the floor."""
    pegs = desk.say("pegs")
    names = [] if pegs == NOTHING else pegs.split(" ")
    return pegs, [desk.say("where " + name) for name in names], [said(desk, "like " + name) for name in pictures]


class AtADesk(unittest.TestCase):
    def says(self, desk, row, answer):
        told = desk.say(row)
        self.assertIs(type(told), str)
        self.assertEqual(told, answer, row)

    def refuses(self, desk, row, error, pictures=(), at=None):
        """That a row is refused with this very class, twice alike, and the desk is as before."""
        before = seen(desk, pictures)
        for turn in range(2):
            with self.assertRaises(ChalkError, msg=repr(row)) as told:
                desk.say(row)
            self.assertIs(type(told.exception), error, repr(row))
            self.assertIsInstance(told.exception, ValueError)
            if error is Same:
                self.assertEqual(told.exception.at, at)
            self.assertEqual(seen(desk, pictures), before)


class Pegs(AtADesk):
    def test_none_at_first(self):
        self.says(Desk(), "pegs", "-")

    def test_pegs_near_and_far(self):
        places = [
            (0, 0, 1), (-3, 5, 7), (1, 0, 0), (-1, 1, 0), (0, 1, 0), (BIG, -BIGGEST, 1), (-BIG, 1, BIGGEST),
            (-10, 0, 1), (0, -1, 100),
        ]
        desk = Desk()
        for name, place in zip(NAMES, places):
            self.says(desk, "peg " + name + " " + written(place), "ok")
        self.says(desk, "pegs", "a b c d e f g h i")
        for name, place in zip(NAMES, places):
            self.says(desk, "where " + name, written(place))
        self.says(desk, "where b", "-3,5,7")
        self.says(desk, "where d", "-1,1,0")

    def test_all_small_places(self):
        for place in small_places(2):
            desk = Desk()
            self.says(desk, "peg a " + written(place), "ok")
            self.says(desk, "where a", written(place))

    def test_the_order_in_which_they_came(self):
        desk = desk_of(SQUARE, ["d", "b", "c", "a"])
        self.says(desk, "pegs", "d b c a")
        self.says(desk, "take b", "ok")
        self.says(desk, "pegs", "d c a")
        self.says(desk, "peg b 1,0,1", "ok")
        self.says(desk, "pegs", "d c a b")
        self.says(desk, "take d", "ok")
        self.says(desk, "peg d 5,6,7", "ok")
        self.says(desk, "pegs", "c a b d")
        for name in "abcd":
            self.says(desk, "take " + name, "ok")
        self.says(desk, "pegs", "-")

    def test_what_is_taken_is_there_no_more(self):
        desk = desk_of(SQUARE)
        self.says(desk, "take b", "ok")
        self.refuses(desk, "where b", NoName)
        self.refuses(desk, "take b", NoName)
        self.refuses(desk, "on a b c", NoName)
        self.says(desk, "peg e 1,0,1", "ok")
        self.refuses(desk, "peg b 1,0,1", Same)
        self.says(desk, "peg b 2,0,1", "ok")
        self.says(desk, "where b", "2,0,1")

    def test_names_that_are_words_of_rows(self):
        desk = Desk()
        for number, name in enumerate(WORDS[:12]):
            self.says(desk, "peg " + name + " " + str(number) + ",0,1", "ok")
        self.says(desk, "pegs", " ".join(WORDS[:12]))
        self.says(desk, "where draw", "6,0,1")
        for number, name in enumerate(WORDS[:12]):
            self.says(desk, "take " + name, "ok")
        for number, name in enumerate(WORDS):
            self.says(desk, "peg " + name + " " + str(number) + ",0,1", "ok")
            self.says(desk, "keep " + name, "ok")
            self.says(desk, "take " + name, "ok")

    def test_cross(self):
        desk = desk_of(SQUARE)
        self.says(desk, "cross m a d b c", "1,1,2")
        self.says(desk, "cross n a b c d", "1,0,0")
        self.says(desk, "cross o a c b d", "0,1,0")
        self.says(desk, "pegs", "a b c d m n o")
        self.says(desk, "where m", "1,1,2")
        self.says(desk, "cross p m n a c", "0,1,2")
        self.says(desk, "cross q n o a d", "1,1,0")
        self.says(desk, "cross r n o b c", "-1,1,0")
        self.says(desk, "pegs", "a b c d m n o p q r")

    def test_cross_of_far_off_pegs(self):
        desk = desk_of(FAR_OFF)
        right = in_form(cross(cross(FAR_OFF[0], FAR_OFF[2]), cross(FAR_OFF[1], FAR_OFF[3])))
        self.says(desk, "cross m a c b d", written(right))
        self.says(desk, "where m", written(right))

    def test_cross_of_lines_that_share_a_peg_or_are_alike(self):
        desk = desk_of(SQUARE + [(2, 0, 1)])
        for row in ["cross m a b a c", "cross m a b c b", "cross m a b b c", "cross m a c b a"]:
            # They cross where a peg stands.
            self.refuses(desk, row, Same)
        for row in [
            "cross m a a b c", "cross m a b c c", "cross m a b a b", "cross m a b b a", "cross m a b a e",
            "cross m a b b e", "cross m a a a a",
        ]:
            self.refuses(desk, row, Same)
        self.refuses(desk, "cross a a b c d", NoName)
        self.refuses(desk, "cross m m b c d", NoName)

    def test_cross_where_a_peg_was(self):
        desk = desk_of(SQUARE)
        self.says(desk, "cross m a d b c", "1,1,2")
        self.refuses(desk, "cross n a d b c", Same)
        self.says(desk, "take m", "ok")
        self.says(desk, "cross n d a b c", "1,1,2")
        self.says(desk, "pegs", "a b c d n")


class Kinds(AtADesk):
    def test_told_ones(self):
        self.says(desk_of(SQUARE), "kind", "frame a b c d")
        self.says(desk_of(SQUARE, ["dd", "cc", "zz", "aa"]), "kind", "frame dd cc zz aa")
        self.says(desk_of(ROW[:3] + [TIP, (4, 1, 1)]), "kind", "frame a b d e")
        self.says(desk_of([TIP]), "kind", "line")
        self.says(desk_of(ROW[:2]), "kind", "line")
        self.says(desk_of(ROW), "kind", "line")
        self.says(desk_of(SQUARE[:3]), "kind", "fan a")
        self.says(desk_of(ROW[:3] + [TIP], ["q", "r", "s", "t"]), "kind", "fan t")
        self.says(desk_of([TIP] + ROW[:3], ["q", "r", "s", "t"]), "kind", "fan q")
        self.says(desk_of(ROW[:2] + [TIP] + ROW[2:11]), "kind", "fan c")
        self.says(desk_of(FAR_OFF), "kind", "frame a b c d")

    def test_by_the_order_in_which_they_came(self):
        desk = desk_of(ROW[:3] + [TIP, (4, 1, 1)])
        self.says(desk, "take a", "ok")
        self.says(desk, "kind", "frame b c d e")
        self.says(desk, "peg a 0,0,1", "ok")
        self.says(desk, "take d", "ok")
        self.says(desk, "kind", "fan e")
        self.says(desk, "peg d " + written(TIP), "ok")
        self.says(desk, "kind", "frame b c e d")

    def test_many(self):
        chance = random.Random(27)
        for turn in range(80):
            floor = chance.sample(small_places(1), chance.randrange(1, 8))
            desk = desk_of(floor)
            frame = first_frame(floor)
            told = desk.say("kind").split(" ")
            if frame:
                self.assertEqual(told, ["frame"] + [NAMES[k] for k in frame])
            else:
                self.assertIn(told[0], ("line", "fan"))


class Draws(AtADesk):
    def test_told_ones(self):
        desk = desk_of(SQUARE)
        self.says(desk, "draw m = a d x b c", "m=1,1,2")
        self.says(desk, "draw m = a d x b c; n = a b x c d", "m=1,1,2 n=1,0,0")
        self.says(desk, "draw zz = a d x b c; y = a b x c d; ab = a c x b d", "ab=0,1,0 y=1,0,0 zz=1,1,2")
        self.says(desk, "draw m = a d x b c; m = a b x c d", "m=1,0,0")
        self.says(desk, "draw rule mid p q r s > m; m = p s x q r; end; e = mid a b c d", "e=1,1,2")
        self.says(desk, "draw rule mid p q r s > m; m = p s x q r; end; m = mid a b c d; n = mid a b d c", "m=1,1,2 n=0,1,0")

    def test_nothing_new(self):
        desk = desk_of(SQUARE)
        self.says(desk, "draw a = a d x b c", "-")
        self.says(desk, "draw times 0; m = a d x b c; end", "-")
        self.says(desk, "draw b = a d x b c; c = a c x b d", "-")

    def test_a_new_one_that_bears_a_pegs_name(self):
        desk = desk_of(SQUARE)
        self.says(desk, "draw a = a d x b c; m = a b x c d", "m=0,1,1")
        self.says(desk, "draw m = a d x b c; a = m b x c d; n = a b x c d", "m=1,1,2 n=0,1,1")

    def test_rounds(self):
        desk = desk_of([(0, 0, 1), (1, 0, 0), (0, 1, 0), (1, 1, 1)])
        # Each round goes one to the west.
        step = "f = b c x a d; g = p c x d b; p = g f x a b"
        start = "p = d c x a b"
        for many in range(5):
            self.says(desk, "draw " + start + "; times " + str(many) + "; " + step + "; end", {
                0: "p=1,0,1", 1: "f=1,1,0 g=1,1,1 p=0,0,1", 2: "f=1,1,0 g=0,1,1 p=-1,0,1", 3: "f=1,1,0 g=-1,1,1 p=-2,0,1",
                4: "f=1,1,0 g=-2,1,1 p=-3,0,1",
            }[many])

    def test_nothing_is_put(self):
        desk = desk_of(SQUARE)
        before = seen(desk)
        desk.say("draw m = a d x b c; a = m b x c d")
        self.assertEqual(seen(desk), before)
        self.refuses(desk, "where m", NoName)

    def test_as_opened_and_walked(self):
        for places in [SQUARE, STANDARD, FAR_OFF, SQUARE + [(2, 3, 1), TIP]]:
            names = NAMES[:len(places)]
            desk = desk_of(places)
            for text in [
                "m = a c x b d; n = a m x c d",
                "rule r s t u v > o; o = s u x t v; end; times 2; z = r a b c d; end; y = r a c b z",
                "m = b c x a d; n = a c x b d; o = m n x c d; p = o a x m b; d = p b x m c; q = d o x a m",
            ]:
                plan, known = opened(names, read_drawing(text))
                try:
                    pegs = walked(places, plan)[0]
                except Same as error:
                    self.refuses(desk, "draw " + text, Same, at=error.at)
                    continue
                right = [name + "=" + written(pegs[known[name]]) for name in sorted(known) if name not in names]
                self.says(desk, "draw " + text, " ".join(right))

    def test_by_the_order_in_which_they_came(self):
        desk = desk_of(SQUARE)
        desk.say("take a")
        desk.say("peg a 0,0,1")
        self.says(desk, "draw m = a d x b c; n = a b x c d", "m=1,1,2 n=1,0,0")

    def test_refusals_of_the_stages(self):
        desk = desk_of(SQUARE)
        for text in [
            "", " ", "m", "m =", "m = a d x b", "m = a d x b c;", "m = a d x b c; ", " m = a d x b c", "m  = a d x b c",
            "m = a d x b c ",
            "times 61; m = a d x b c; end", "end", "m = a d y b c d e f x", "M = a d x b c", "m = a d x b c\n",
            "draw m = a d x b c",
            "rule m p > q; end; m = a d x b c", "m = a d X b c", "x = a d x b c",
        ]:
            self.refuses(desk, "draw " + text, NoText)
        for text in [
            "m = a e x b c", "m = n a", "m = a m x b c", "rule r p > q; q = p a x p p; end; m = r a",
            "m = a b x c d; n = a b x c o",
        ]:
            self.refuses(desk, "draw " + text, NoName)
        self.refuses(desk, "draw " + "times 60; times 60; times 60; m = a d x b c; end; end; end", TooMany)
        self.refuses(desk, "draw m = a a x b c", Same, at=0)
        self.refuses(desk, "draw m = a b x c c", Same, at=1)
        self.refuses(desk, "draw m = a b x a b", Same, at=2)
        self.refuses(desk, "draw m = a d x b c; n = a m x d a", Same, at=5)
        # Text ahead of names, and names ahead of what is alike.
        self.refuses(desk, "draw m = e a x b c; n =", NoText)
        self.refuses(desk, "draw m = a a x b c; n = e a x b c", NoName)


class Wishes(AtADesk):
    def test_as_planned(self):
        for places in [SQUARE, STANDARD, FAR_OFF, SQUARE + [(2, 3, 1), TIP], [(2, 0, 1)] + SQUARE]:
            desk = desk_of(places)
            four = [places[k] for k in first_frame(places)]
            numbers = [(5, -3, 7), (-5, 3, 7), (1, 1, 0), (0, 0, 1), (1, 0, 0), (123456, -7, 1)]
            for wish in [from_frame(four, three) for three in numbers] + places:
                plan, number = plan_for(places, wish)
                self.assertEqual(walked(places, plan)[0][number], wish)
                self.says(desk, "wish " + written(wish), str(len(plan)) + " " + str(number))

    def test_told_ones(self):
        desk = desk_of(SQUARE)
        self.says(desk, "wish 0,0,1", "0 0")
        self.says(desk, "wish 1,1,1", "0 3")
        desk.say("take a")
        desk.say("peg a 0,0,1")
        self.says(desk, "wish 0,0,1", "0 3")
        self.says(desk, "pegs", "b c d a")

    def test_refusals_of_the_stages(self):
        for places in [[TIP], ROW, SQUARE[:3], ROW[:5] + [TIP]]:
            for wish in ["0,0,1", written(TIP), "5,7,1", str(10 ** 59) + ",3,1"]:
                self.refuses(desk_of(places), "wish " + wish, NoFrame)
        desk = desk_of(STANDARD)
        self.refuses(desk, "wish " + str(10 ** 40) + ",3,1", TooMany)
        self.refuses(desk, "wish -" + str(10 ** 40) + ",3,1", TooMany)
        self.assertEqual(desk.say("wish " + str(10 ** 40 - 1) + ",3,1"), "{} {}".format(
            len(plan_for(STANDARD, (10 ** 40 - 1, 3, 1))[0]), plan_for(STANDARD, (10 ** 40 - 1, 3, 1))[1]))


class OnRatioBow(AtADesk):
    def test_on(self):
        desk = desk_of(SQUARE + [(1, 1, 2), (2, 2, 1), (1, 1, 0)])
        for row, answer in [
            ("on a d e", "yes"), ("on e a d", "yes"), ("on a d f", "yes"), ("on a d g", "yes"), ("on b c e", "yes"),
            ("on a b c", "no"),
            ("on b c g", "no"), ("on a a b", "yes"), ("on a b a", "yes"), ("on b a a", "yes"), ("on a a a", "yes"),
            ("on d f g", "yes"),
        ]:
            self.says(desk, row, answer)
        places = SQUARE + [(1, 1, 2), (2, 2, 1), (1, 1, 0)]
        for three in itertools.product(range(7), repeat=3):
            right = "yes" if volume(*[places[k] for k in three]) == 0 else "no"
            self.says(desk, " ".join(["on"] + [NAMES[k] for k in three]), right)

    def test_ratio(self):
        desk = desk_of([(0, 0, 1), (1, 0, 1), (2, 0, 1), (3, 0, 1), (1, 0, 0), (0, 1, 1)])
        for row, answer in [
            ("ratio a b c d", "4:3"), ("ratio a c b d", "-1:3"), ("ratio a c b e", "-1:1"), ("ratio a a b c", "1:1"),
            ("ratio b c a a", "1:1"),
            ("ratio a b a c", "0:1"), ("ratio b a c a", "0:1"), ("ratio a b c a", "1:0"), ("ratio b a a c", "1:0"),
            ("ratio e a b d", "3:1"),
        ]:
            self.says(desk, row, answer)
        for row in [
            "ratio a a a b", "ratio a a b b", "ratio a b a b", "ratio a a a a", "ratio a b c f", "ratio f a b c",
            "ratio a b f a",
        ]:
            self.refuses(desk, row, NoRatio)
        far = [(BIG, 0, 1), (BIGGEST, 0, 1), (1, 0, BIG), (-BIG, 0, BIGGEST)]
        self.says(desk_of(far), "ratio a b c d", "{}:{}".format(*ratio(*far)))

    def test_bow(self):
        desk = desk_of(CIRCLE + [(0, 0, 1), (0, 1, 2), (0, 1, 0), (1, 5, 1), (1, 0, 0)])
        for row, answer in [
            ("bow a b c d e f", "-1,0,1"), ("bow a b c d e g", "-3,4,5"), ("bow a b c d e h", "1,0,1"),
            ("bow a b c d e i", "1,0,1"),
            ("bow a b c d e j", "-1,0,1"), ("bow a b c d e b", "0,1,1"), ("bow a b c d e c", "-1,0,1"),
            ("bow a b c d e e", "3,4,5"),
            ("bow b a c d e f", "0,-1,1"), ("bow e d c b a f", "-3,-4,5"), ("bow d e a b c h", "0,1,1"),
            ("bow c a b d e j", "1,0,1"),
        ]:
            self.says(desk, row, answer)
        for row in [
            "bow a b c d f g", "bow a b c d d g", "bow a a b c d e", "bow a b c f e g", "bow a a a a a a",
            "bow a b c d a a", "bow a b c d f a",
        ]:
            self.refuses(desk, row, NoBow)
        for row in ["bow a b c d e a", "bow b a c d e b", "bow e d c b a e"]:
            self.refuses(desk, row, Same)
        far = FAR_OFF + [(BIGGEST, -BIG, 3), (1, 2, 3)]
        self.says(desk_of(far), "bow a b c d e f", written(again(far[:5], far[5])))


class Pictures(AtADesk):
    def test_a_change(self):
        desk = desk_of(SQUARE + [(1, 1, 2)])
        self.says(desk, "keep p", "ok")
        self.says(desk, "like p", "change 1 0 0 0 1 0 0 0 1")
        for name, place in zip("abcde", [(2, 3, 1), (3, 3, 1), (2, 4, 1), (3, 4, 1), (5, 7, 2)]):
            self.says(desk, "take " + name, "ok")
            self.says(desk, "peg " + name + " " + written(place), "ok")
        # The floor is led to the picture, not the picture to the floor.
        self.says(desk, "like p", "change 1 0 -2 0 1 -3 0 0 1")
        self.says(desk, "keep q", "ok")
        self.says(desk, "like q", "change 1 0 0 0 1 0 0 0 1")

    def test_other_changes(self):
        for change in some_changes(20, 5):
            like = [in_form(sums(change, place)) for place in SQUARE + [TIP]]
            desk = desk_of(like)
            desk.say("keep p")
            for name in "abcde":
                desk.say("take " + name)
            for name, place in zip("abcde", SQUARE + [TIP]):
                self.says(desk, "peg " + name + " " + written(place), "ok")
            self.says(desk, "like p", " ".join(["change"] + [str(number) for number in change]))

    def test_by_names_in_another_order(self):
        desk = desk_of(SQUARE + [(2, 3, 1)])
        self.says(desk, "keep p", "ok")
        for order in ["edcba", "bacde", "cdeab", "abecd"]:
            for name in order:
                place = desk.say("where " + name)
                self.says(desk, "take " + name, "ok")
                self.says(desk, "peg " + name + " " + place, "ok")
            self.says(desk, "pegs", " ".join(order))
            self.says(desk, "like p", "change 1 0 0 0 1 0 0 0 1")

    def test_the_names_not_the_places_are_held(self):
        desk = desk_of(SQUARE)
        desk.say("keep p")
        for name, place in zip("abcd", SQUARE):
            desk.say("take " + name)
        for name, place in zip("badc", SQUARE):
            desk.say("peg " + name + " " + written(place))
        # a and b have gone over into one another, and c and d: x is 1 - x.
        self.says(desk, "like p", "change 1 0 -1 0 -1 0 0 0 -1")

    def test_three_on_a_line(self):
        desk = desk_of(SQUARE + [(1, 1, 2)])
        desk.say("keep p")
        desk.say("take e")
        desk.say("peg e 1,2,3")
        self.says(desk, "like p", "line a d e")
        desk.say("take a")
        desk.say("peg a 0,0,1")
        # In the floor's order, which is b c d e a now.
        self.says(desk, "like p", "line d e a")
        desk.say("keep q")
        desk.say("take e")
        desk.say("peg e 1,1,2")
        self.says(desk, "pegs", "b c d a e")
        self.says(desk, "like q", "line d a e")
        self.says(desk, "like p", "change 1 0 0 0 1 0 0 0 1")

    def test_a_plan(self):
        desk = desk_of(SQUARE + [(2, 3, 1), (5, 3, 1)], ["ah", "be", "ce", "de", "ee", "ef"])
        desk.say("keep p")
        desk.say("take ef")
        desk.say("peg ef 5,4,1")
        self.says(desk, "like p", "plan ef")
        desk.say("take ee")
        desk.say("peg ee 2,5,1")
        self.says(desk, "pegs", "ah be ce de ef ee")
        self.says(desk, "like p", "plan ef")
        desk.say("take ef")
        desk.say("peg ef 5,3,1")
        self.says(desk, "like p", "plan ee")

    def test_as_held(self):
        chance = random.Random(28)
        kinds = {}
        for turn in range(150):
            many = chance.randrange(4, 8)
            one = chance.sample(small_places(2), many)
            other = list(one)
            for k in range(many):
                if chance.randrange(4) == 0:
                    other[k] = chance.choice([place for place in small_places(2) + [(9, 7, 5), (7, -9, 4)] if place not in other])
            desk = desk_of(other)
            desk.say("keep p")
            for name in NAMES[:many]:
                desk.say("take " + name)
            for name, place in zip(NAMES, one):
                desk.say("peg " + name + " " + written(place))
            told = said(desk, "like p")
            try:
                right = held(one, other)
            except ChalkError as error:
                self.assertIs(told, type(error))
                continue
            told = told.split(" ")
            kinds[right[0]] = kinds.get(right[0], 0) + 1
            self.assertEqual(told[0], right[0])
            if right[0] == "change":
                self.assertEqual(tuple(int(word) for word in told[1:]), right[1])
            elif right[0] == "line":
                self.assertEqual(told[1:], [NAMES[k] for k in right[1:]])
            else:
                self.assertEqual(told[1:], [NAMES[right[2]]])
        self.assertEqual(set(kinds), {"change", "line", "plan"})

    def test_in_the_stead_of_one(self):
        desk = desk_of(SQUARE)
        self.says(desk, "keep p", "ok")
        self.says(desk, "peg e 1,1,2", "ok")
        self.refuses(desk, "like p", Unlike)
        self.says(desk, "keep p", "ok")
        self.says(desk, "like p", "change 1 0 0 0 1 0 0 0 1")
        self.says(desk, "take e", "ok")
        self.refuses(desk, "like p", Unlike)

    def test_what_is_kept_stays(self):
        desk = desk_of(SQUARE)
        desk.say("keep p")
        for row in [
            "take a", "peg a 5,7,1", "peg e 1,1,2", "cross f a d b c", "take f", "take e", "take a", "peg a 0,0,1",
        ]:
            desk.say(row)
        self.says(desk, "pegs", "b c d a")
        self.says(desk, "like p", "change 1 0 0 0 1 0 0 0 1")

    def test_a_picture_may_bear_a_pegs_name(self):
        desk = desk_of(SQUARE)
        self.says(desk, "keep a", "ok")
        self.says(desk, "like a", "change 1 0 0 0 1 0 0 0 1")
        self.says(desk, "pegs", "a b c d")
        self.says(desk, "where a", "0,0,1")
        self.says(desk, "keep m", "ok")
        self.says(desk, "cross m a d b c", "1,1,2")
        self.refuses(desk, "peg p 1,1,2", Same)

    def test_a_picture_without_pegs(self):
        desk = Desk()
        self.says(desk, "keep p", "ok")
        self.refuses(desk, "like p", NoFloor)
        self.says(desk, "peg a 0,0,1", "ok")
        self.refuses(desk, "like p", Unlike)
        self.says(desk, "take a", "ok")
        self.refuses(desk, "like p", NoFloor)

    def test_unlike_names(self):
        desk = desk_of(SQUARE)
        desk.say("keep p")
        desk.say("take d")
        self.refuses(desk, "like p", Unlike, ["p"])
        desk.say("peg e 1,1,1")
        self.refuses(desk, "like p", Unlike, ["p"])
        desk.say("peg d 5,7,1")
        self.refuses(desk, "like p", Unlike, ["p"])
        desk.say("take e")
        self.assertEqual(desk.say("like p").split(" ")[0], "change")
        for name in "abcd":
            desk.say("take " + name)
        self.refuses(desk, "like p", NoFloor, ["p"])

    def test_refusals_of_the_stages(self):
        for places in [[TIP], ROW[:4], ROW[:3] + [TIP]]:
            desk = desk_of(places)
            desk.say("keep p")
            self.refuses(desk, "like p", NoFrame, ["p"])
        desk = desk_of(STANDARD + [(5, 7, 2)])
        desk.say("keep p")
        desk.say("take e")
        desk.say("peg e " + str(10 ** 40) + ",3,1")
        self.refuses(desk, "like p", TooMany, ["p"])
        # Unlike names go first.
        flat = desk_of(ROW[:4])
        flat.say("keep p")
        flat.say("take a")
        self.refuses(flat, "like p", Unlike)


class NoRows(AtADesk):
    def desks(self):
        kept = desk_of(SQUARE)
        kept.say("keep p")
        return [Desk(), kept, desk_of(ROW)]

    def test_no_text(self):
        for thing in OTHER_THINGS + [[], ["pegs"], ("pegs",), b"pegs", ["peg", "a", (0, 0, 1)], object(), Fraction(1, 3)]:
            for desk in self.desks():
                self.refuses(desk, thing, NoRow)

    def test_no_such_words(self):
        for row in [
            "", " ", "  ", "\n", "\t", "-", "a", "x", "ok", "Pegs", "PEGS", "peg", "pegss", "pe gs", "pegs\n", "\npegs",
            "pegs\t", "\tpegs", "pegs\r",
            "kind\n", "kind\t", "kind;", "kind.", "kinds", "line", "line a b", "put a 0,0,1", "Peg e 5,5,1",
            "peg\te 5,5,1", "peg\ne 5,5,1",
            "drawm = a d x b c", "draw\tm = a d x b c", "draw\nm = a d x b c", "draw;", "Draw m = a d x b c", "help",
            "quit", "held p", "take\ta", "new e",
            "place", "text", "name", "kept",
        ]:
            for desk in self.desks():
                self.refuses(desk, row, NoRow)

    def test_too_few_and_too_many_words(self):
        right = {
            "peg": "e 5,7,1", "take": "a", "cross": "e a d b c", "pegs": "", "where": "a", "kind": "", "wish": "5,7,1",
            "on": "a b c",
            "ratio": "a b c d", "bow": "a b c d a b", "keep": "q", "like": "p",
        }
        for word, rest in right.items():
            words = [word] + rest.split()
            for many in range(1, len(words)):
                for desk in self.desks():
                    self.refuses(desk, " ".join(words[:many]), NoRow, ["p"])
            for more in [["a"], ["b"], ["0,0,1"], [""], ["", ""], ["a", "b"], ["a"] * 9]:
                for desk in self.desks():
                    self.refuses(desk, " ".join(words + more), NoRow, ["p"])

    def test_blanks(self):
        for row in [
            " pegs", "pegs ", "  pegs", "kind ", " kind", "peg  e 5,7,1", "peg e  5,7,1", " peg e 5,7,1",
            "peg e 5,7,1 ", "where  a", " where a", "where a ",
            "take  a", "take a ", " take a", "on a  b c", "on a b c ", " on a b c", " draw m = a d x b c", "keep  q",
            "keep q ", "like  p", "like p ",
            "wish  5,7,1", "wish 5,7,1 ", "cross e a d b c ", "cross e  a d b c", "ratio a b c  d", "bow a b c d a b ",
        ]:
            for desk in self.desks():
                self.refuses(desk, row, NoRow, ["p"])

    def test_a_word_without_signs_is_no_name(self):
        desk = self.desks()[1]
        for row in [
            "where ", "take ", "keep ", "like ", "on a  b", "on  a b", "on a b ", "ratio a b  c", "cross e a  b c",
            "cross  a b c d", "peg  5,7,1",
        ]:
            self.refuses(desk, row, NoName, ["p"])
        for row in ["wish ", "peg e "]:
            self.refuses(desk, row, NoText, ["p"])

    def test_draw_needs_a_blank(self):
        for desk in self.desks():
            self.refuses(desk, "draw", NoRow)
        self.refuses(Desk(), "draw ", NoFloor)
        self.refuses(self.desks()[1], "draw ", NoText)
        self.refuses(self.desks()[1], "draw  m = a d x b c", NoText)

    def test_ahead_of_all_else(self):
        for row in [
            "peg X", "peg X 0,0,0 1", "take X Y", "where X Y", "on X Y", "cross X Y", "wish 0,0,0 a", "keep X Y",
            "like X Y", "kind X",
        ]:
            for desk in self.desks() + [desk_of([(k, k * k, 1) for k in range(12)])]:
                self.refuses(desk, row, NoRow)


class NoNames(AtADesk):
    def test_what_is_no_name(self):
        desk = desk_of(SQUARE)
        desk.say("keep p")
        for word in NO_NAMES:
            for row in [
                "peg * 5,7,1", "take *", "cross * a d b c", "cross e * d b c", "cross e a * b c", "cross e a d * c",
                "cross e a d b *", "where *",
                "on * b c", "on a * c", "on a b *", "ratio * b c d", "ratio a * c d", "ratio a b * d", "ratio a b c *",
                "bow * b c d e f",
                "bow a b c d a *", "keep *", "like *",
            ]:
                self.refuses(desk, row.replace("*", word), NoName, ["p"])

    def test_what_is_not_there(self):
        desk = desk_of(CIRCLE + [(5, 7, 3)])
        desk.say("keep p")
        rows = ["take a", "cross g a d b c", "where a", "on a b c", "ratio a b c d", "bow a b c d e f"]
        for row in rows:
            words = row.split(" ")
            for at in range(1, len(words)):
                if words[at] != "g":
                    for name in ["zz", "p", "peg"]:
                        self.refuses(desk, " ".join(words[:at] + [name] + words[at + 1:]), NoName, ["p"])
        for name in ["a", "zz", "q"]:
            self.refuses(desk, "like " + name, NoName, ["p"])

    def test_what_is_there(self):
        desk = desk_of(SQUARE)
        for name in "abcd":
            self.refuses(desk, "peg " + name + " 5,7,1", NoName)
            self.refuses(desk, "cross " + name + " a d b c", NoName)

    def test_without_pegs(self):
        for row in ["take a", "where a", "cross e a b c d", "on a b c", "ratio a b c d", "bow a b c d e f", "like p"]:
            self.refuses(Desk(), row, NoName)


class NoTexts(AtADesk):
    def test_what_is_no_place(self):
        for desk in [Desk(), desk_of(SQUARE), desk_of(ROW)]:
            for word in NO_PLACES:
                self.refuses(desk, "peg zz " + word, NoText)
                self.refuses(desk, "wish " + word, NoText)

    def test_what_is_one(self):
        for word in [
            "0,0,1", "-1,0,1", "1,-1,1", "-1,1,0", "0,1,0", "1,0,0", "-10,20,1", "10,100,1001", "3,-7,2",
            str(BIG) + ",-" + str(BIGGEST) + ",1",
        ]:
            desk = Desk()
            self.says(desk, "peg a " + word, "ok")
            self.says(desk, "where a", word)


class TheOrder(AtADesk):
    def test_the_name_ahead_of_the_place(self):
        desk = desk_of(SQUARE)
        for name in ["a", "X", "x", ""]:
            for place in ["0,0,0", "0,0,1", "5,7", ""]:
                self.refuses(desk, "peg " + name + " " + place, NoName)
        for place in ["0,0,0", "5,7", "", "a"]:
            self.refuses(desk, "peg e " + place, NoText)

    def test_names_and_places_ahead_of_a_thirteenth(self):
        desk = desk_of(ROW)
        self.refuses(desk, "peg a 5,7,1", NoName)
        self.refuses(desk, "peg X 5,7,1", NoName)
        self.refuses(desk, "peg m 5,7", NoText)
        self.refuses(desk, "peg m 0,0,0", NoText)
        self.refuses(desk, "cross m a b c zz", NoName)
        self.refuses(desk, "cross a a b c d", NoName)

    def test_a_thirteenth_ahead_of_the_same(self):
        bent = [(k, k * k, 1) for k in range(12)]
        for places in [ROW, bent]:
            desk = desk_of(places)
            self.refuses(desk, "peg m 5,7,1", TooMany)
            self.refuses(desk, "peg m " + written(places[3]), TooMany)
            self.refuses(desk, "cross m a b c d", TooMany)
            self.refuses(desk, "cross m a a c d", TooMany)
            self.refuses(desk, "cross m a b a b", TooMany)
            self.refuses(desk, "cross m a b a c", TooMany)
        desk = desk_of(bent)
        self.says(desk, "take l", "ok")
        self.refuses(desk, "peg m 3,9,1", Same)
        self.refuses(desk, "cross m a b a c", Same)
        self.refuses(desk, "cross m a a c d", Same)
        self.says(desk, "cross m a b c d", written(in_form(cross(cross(bent[0], bent[1]), cross(bent[2], bent[3])))))
        self.refuses(desk, "cross n a b c d", TooMany)
        self.says(desk, "take m", "ok")
        self.says(desk, "peg n 5,7,1", "ok")
        self.refuses(desk, "peg o 5,8,1", TooMany)

    def test_where_a_peg_stands(self):
        desk = desk_of(SQUARE + [(1, 0, 0)])
        for place in SQUARE + [(1, 0, 0)]:
            self.refuses(desk, "peg m " + written(place), Same)

    def test_no_floor(self):
        desk = Desk()
        desk.say("keep p")
        for row in [
            "kind", "draw m = a d x b c", "draw ", "draw m", "draw m = a a x a a", "wish 0,0,1", "wish 5,7,1", "like p",
        ]:
            self.refuses(desk, row, NoFloor, ["p"])
        for row, error in [
            ("wish 0,0,0", NoText), ("wish a", NoText), ("like q", NoName), ("like X", NoName), ("kind a", NoRow),
            ("draw", NoRow),
        ]:
            self.refuses(desk, row, error, ["p"])
        gone = desk_of([TIP])
        gone.say("take a")
        for row in ["kind", "draw m = a d x b c", "wish 0,0,1"]:
            self.refuses(gone, row, NoFloor)
        self.says(gone, "pegs", "-")


class TwoDesks(AtADesk):
    def test_nothing_in_common(self):
        one, other = Desk(), Desk()
        self.says(one, "peg a 0,0,1", "ok")
        self.says(one, "keep p", "ok")
        self.says(other, "pegs", "-")
        self.refuses(other, "like p", NoName)
        self.says(other, "peg a 1,0,1", "ok")
        self.says(one, "where a", "0,0,1")
        self.says(one, "take a", "ok")
        self.says(other, "pegs", "a")
        self.says(Desk(), "pegs", "-")

    def test_told_alike_they_answer_alike(self):
        rows = [
            "peg a 0,0,1", "peg b 1,0,1", "peg c 0,1,1", "peg d 1,1,1", "keep p", "cross m a d b c", "kind",
            "wish 5,-3,7", "pegs", "peg a 5,7,1", "like p",
            "take m", "like p", "draw n = a b x c d", "on a b c", "bogus", "peg e 0,0,1", "take a", "peg a 0,0,2",
            "pegs",
        ]
        one, other = Desk(), Desk()
        first = [said(one, row) for row in rows]
        self.assertEqual([said(other, row) for row in rows], first)
        self.assertEqual(first[8:14], ["a b c d m", NoName, Unlike, "ok", "change 1 0 0 0 1 0 0 0 1", "n=1,0,0"])

    def test_what_only_tells_changes_nothing(self):
        desk = desk_of(CIRCLE + [(0, 0, 1)])
        desk.say("keep p")
        before = seen(desk, ["p"])
        for row in [
            "pegs", "where a", "kind", "draw z = a b x c d; a = b c x d e", "wish 5,7,1", "on a b c", "ratio a c f a",
            "bow a b c d e f", "like p",
        ]:
            first = said(desk, row)
            self.assertEqual(said(desk, row), first)
            self.assertEqual(seen(desk, ["p"]), before)


class Model:
    """A desk told once more: lists for dicts, and each row by itself."""

    def __init__(self):
        self.pegs = []
        self.kept = []

    def place(self, name):
        return dict(self.pegs)[name]

    def put(self, name, place):
        if len(self.pegs) > 11:
            return TooMany
        if place() in [place for name, place in self.pegs]:
            return Same
        self.pegs.append((name, place()))
        return None

    def answer(self, words):
        """The answer to a row whose words are as many as they must be, names and places as they must be."""
        names = [name for name, place in self.pegs]
        if words[0] == "peg":
            return self.put(words[1], lambda: words[2]) or "ok"
        if words[0] == "take":
            self.pegs = [pair for pair in self.pegs if pair[0] != words[1]]
            return "ok"
        if words[0] == "cross":
            a, b, c, d = [self.place(name) for name in words[2:]]
            three = cross(cross(a, b), cross(c, d))
            if len(self.pegs) < 12 and not any(three):
                return Same
            return self.put(words[1], lambda: in_form(three)) or written(in_form(three))
        if words[0] == "pegs":
            return " ".join(names) or "-"
        if words[0] == "where":
            return written(self.place(words[1]))
        if words[0] == "on":
            return "no" if volume(*[self.place(name) for name in words[1:]]) else "yes"
        if words[0] == "keep":
            self.kept = [pair for pair in self.kept if pair[0] != words[1]] + [(words[1], list(self.pegs))]
            return "ok"
        picture = dict(dict(self.kept)[words[1]])
        if not names:
            return NoFloor
        return None if sorted(picture) == sorted(names) else Unlike

    def say(self, words):
        names = [name for name, place in self.pegs]
        for at, word in enumerate(words[1:], 1):
            if isinstance(word, tuple):
                continue
            if words[0] in ("keep", "like"):
                wrong = words[0] == "like" and word not in dict(self.kept)
            else:
                wrong = (word in names) == (at == 1 and words[0] in ("peg", "cross"))
            if wrong:
                return NoName
        return self.answer(words)


class LongTalks(AtADesk):
    def test_many_rows(self):
        for seed in range(12):
            chance = random.Random(seed)
            places = small_places(1 + seed % 3)
            names = NAMES[:4 + seed] if seed < 8 else NAMES + ["m", "n", "o"]
            desk, model = Desk(), Model()
            answers = {}
            for turn in range(400):
                word = chance.choice(["peg", "peg", "peg", "cross", "cross", "take", "pegs", "where", "on", "keep", "like"])
                many = {"peg": 1, "cross": 5, "take": 1, "pegs": 0, "where": 1, "on": 3, "keep": 1, "like": 1}[word]
                words = [word] + [chance.choice(names[:2] if word in ("keep", "like") else names) for turn in range(many)]
                if word == "peg":
                    words.append(chance.choice(places))
                row = " ".join(written(word) if isinstance(word, tuple) else word for word in words)
                right, told = model.say(words), said(desk, row)
                if right is not None:
                    self.assertEqual(told, right, row)
                answers[told] = answers.get(told, 0) + 1
            self.assertEqual(seen(desk)[1], [written(place) for name, place in model.pegs])
            self.assertIn(Same, answers)


if __name__ == "__main__":
    unittest.main()
