"""The desk: rows that are told, each answered with a text."""

from chalkline.bows import again
from chalkline.drawings import is_name, read_drawing
from chalkline.errors import NoName, NoRow, Same, TooMany, Unlike
from chalkline.floors import MOST_PEGS, kind_of, look_at
from chalkline.opening import opened
from chalkline.pictures import held
from chalkline.places import crossing, on_one, through
from chalkline.plans import walked
from chalkline.ratios import ratio
from chalkline.texts import read_place, shown_place
from chalkline.wishes import plan_for

# What stands behind the first word of each row: a name that no peg has (new), that one has (peg), that a picture has
# (kept) or any name (name), a place, or all that follows (text).
ROWS = {
    "peg": ("new", "place"),
    "take": ("peg",),
    "cross": ("new", "peg", "peg", "peg", "peg"),
    "pegs": (),
    "where": ("peg",),
    "kind": (),
    "draw": ("text",),
    "wish": ("place",),
    "on": ("peg", "peg", "peg"),
    "ratio": ("peg", "peg", "peg", "peg"),
    "bow": ("peg", "peg", "peg", "peg", "peg", "peg"),
    "keep": ("name",),
    "like": ("kept",),
}


def words_of(row):
    """The words of a row, of which there are as many as there must be; a drawing's text is one word."""
    if not isinstance(row, str):
        raise NoRow("only a text is a row")
    words = row.split(" ", 1) if row.startswith("draw ") else row.split(" ")
    if words[0] not in ROWS or len(words) != 1 + len(ROWS[words[0]]):
        raise NoRow("there is no such row")
    return words


def read_words(desk, words):
    """What the words behind a row's first one say: places as such, all others as they are."""
    return [read_word(desk, word, kind) for word, kind in zip(words[1:], ROWS[words[0]])]


def read_word(desk, word, kind):
    """What a word says that must be of this kind."""
    if kind == "place":
        return read_place(word)
    if kind != "text":
        look_at_name(desk, word, kind)
    return word


def look_at_name(desk, word, kind):
    """Refuses what is no name, or is there where it must not be, or isn't where it must."""
    if not is_name(word):
        raise NoName("a name is one to eight small letters, but not x, rule, times, end")
    if kind == "new" and word in desk.places:
        raise NoName("a peg has this name already")
    if kind == "peg" and word not in desk.places:
        raise NoName("no peg has this name")
    if kind == "kept" and word not in desk.pictures:
        raise NoName("no picture has this name")


def floor_of(desk):
    """The floor of a desk; without pegs it is none."""
    floor = list(desk.places.values())
    look_at(floor)
    return floor


def places_of(desk, names):
    """The places of pegs by their names."""
    return [desk.places[name] for name in names]


def look_for_room(desk):
    """Refuses one peg more than a floor may have."""
    if len(desk.places) == MOST_PEGS:
        raise TooMany("a floor has at most twelve pegs")


def put_peg(desk, name, place):
    """Puts a peg where none stands."""
    look_for_room(desk)
    if place in list(desk.places.values()):
        raise Same()
    desk.places[name] = place


def listed(words):
    """Words with blanks between, or a sign that there is none."""
    return " ".join(words) if len(words) > 0 else "-"


def say_peg(desk, said):
    """Puts a peg at a place."""
    put_peg(desk, said[0], said[1])
    return "ok"


def say_take(desk, said):
    """Takes a peg away."""
    desk.places.pop(said[0])
    return "ok"


def say_cross(desk, said):
    """Puts a peg where two lines cross."""
    # Ahead of the lines, which may be refused too.
    look_for_room(desk)
    four = places_of(desk, said[1:])
    place = crossing(through(four[0], four[1]), through(four[2], four[3]))
    put_peg(desk, said[0], place)
    return shown_place(place)


def say_pegs(desk, said):
    """The names of all pegs in the order in which they came."""
    return listed(list(desk.places))


def say_where(desk, said):
    """The place of a peg."""
    return shown_place(desk.places[said[0]])


def say_kind(desk, said):
    """The kind of the floor, with names for numbers."""
    kind = kind_of(floor_of(desk))
    names = list(desk.places)
    if kind[0] == "frame":
        return " ".join(["frame"] + [names[number] for number in kind[1]])
    return " ".join([kind[0]] + [names[number] for number in kind[1:]])


def say_draw(desk, said):
    """The places of all names that a drawing makes known."""
    floor = floor_of(desk)
    told = opened(list(desk.places), read_drawing(said[0]))
    pegs = walked(floor, told[0])[0]
    known = told[1]
    names = sorted([name for name in known if name not in desk.places])
    return listed([name + "=" + shown_place(pegs[known[name]]) for name in names])


def say_wish(desk, said):
    """How many deeds the plan for a place has, and the number of its peg."""
    told = plan_for(floor_of(desk), said[0])
    return " ".join([str(len(told[0])), str(told[1])])


def say_on(desk, said):
    """Whether three pegs lie on one line."""
    return "yes" if on_one(places_of(desk, said)) else "no"


def say_ratio(desk, said):
    """The cross ratio of four pegs."""
    four = places_of(desk, said)
    told = ratio(four[0], four[1], four[2], four[3])
    return ":".join([str(told[0]), str(told[1])])


def say_bow(desk, said):
    """Where the line through the first and the last of six pegs meets the bow of the first five again."""
    six = places_of(desk, said)
    return shown_place(again(six[:5], six[5]))


def say_keep(desk, said):
    """Keeps the floor as a picture."""
    desk.pictures[said[0]] = dict(desk.places)
    return "ok"


def say_like(desk, said):
    """The floor held against a picture, by names."""
    floor = floor_of(desk)
    names = list(desk.places)
    picture = desk.pictures[said[0]]
    if sorted(picture) != sorted(names):
        raise Unlike("the floor and the picture have not the same names")
    told = held(floor, [picture[name] for name in names])
    if told[0] == "change":
        return " ".join(["change"] + [str(number) for number in told[1]])
    if told[0] == "line":
        return " ".join(["line"] + [names[number] for number in told[1:]])
    return "plan " + names[told[2]]


ANSWERS = {
    "peg": say_peg,
    "take": say_take,
    "cross": say_cross,
    "pegs": say_pegs,
    "where": say_where,
    "kind": say_kind,
    "draw": say_draw,
    "wish": say_wish,
    "on": say_on,
    "ratio": say_ratio,
    "bow": say_bow,
    "keep": say_keep,
    "like": say_like,
}


class Desk:
    """A floor whose pegs have names, and the pictures that are kept of it."""

    def __init__(self):
        # Places by names, in the order in which the pegs came.
        self.places = {}
        # For each picture's name the places by names as they were.
        self.pictures = {}

    def say(self, row):
        """The answer to a row."""
        words = words_of(row)
        said = read_words(self, words)
        return ANSWERS[words[0]](self, said)
