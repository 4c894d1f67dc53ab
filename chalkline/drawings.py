"""Drawings: rules and rows, written and read."""

from chalkline.errors import NoText
from chalkline.texts import rows_of

LETTERS = "abcdefghijklmnopqrstuvwxyz"
MOST_LETTERS = 8
NO_NAMES = ("x", "rule", "times", "end")
MOST_RULES = 20
MOST_PARAMS = 8
MOST_TIMES = 60
MOST_WITHIN = 4


class Reader:
    """The rows of a text, each as its words, and how many of them are read."""

    def __init__(self, rows):
        self.rows = rows
        self.done = 0

    def ahead(self):
        """The words of the row that is read next, or none behind the last row."""
        return self.rows[self.done] if self.done < len(self.rows) else []

    def take(self):
        """The words of the next row, which is read with that."""
        words = self.ahead()
        self.done += 1
        return words


def is_name(thing):
    """Whether a thing is a name: one to eight small letters, but no word that rows are made of."""
    return is_word(thing) and thing not in NO_NAMES


def is_word(thing):
    """Whether a thing is a text of one to eight small letters."""
    if not isinstance(thing, str) or not 1 <= len(thing) <= MOST_LETTERS:
        return False
    return all([sign in LETTERS for sign in thing])


def read_drawing(text):
    """The rules and rows that a text writes."""
    reader = Reader(rows_of(text))
    rules = []
    while reader.ahead()[:1] == ["rule"]:
        rules.append(read_rule(reader))
    if len(rules) > MOST_RULES:
        raise NoText("a drawing has twenty rules at most")
    if not unlike([rule[0] for rule in rules]):
        raise NoText("two rules have one name")
    rows = read_rows(reader, 0)
    if reader.ahead() != []:
        raise NoText("an end without its beginning")
    return (tuple(rules), rows)


def unlike(names):
    """Whether no two names of a list are alike."""
    return len(set(names)) == len(names)


def look_at_names(words):
    """Refuses words of which one is no name."""
    if not all([is_name(word) for word in words]):
        raise NoText("a name is one to eight small letters, but not x, rule, times, end")


def read_rule(reader):
    """The rule whose first row is read next."""
    words = reader.take()
    params = words[2:-2]
    if len(words) < 5 or words[-2] != ">":
        raise NoText("a rule begins with rule NAME PARAM .. > OUT")
    look_at_names([words[1], words[-1]] + params)
    if len(params) > MOST_PARAMS or not unlike(params):
        raise NoText("a rule has one to eight unlike params")
    rows = read_rows(reader, 0)
    read_end(reader)
    return (words[1], tuple(params), words[-1], rows)


def read_end(reader):
    """Reads the row that ends a rule or rounds."""
    if reader.take() != ["end"]:
        raise NoText("an end is missing")


def read_rows(reader, within):
    """One row or more, up to an end or behind the last row; within is the number of rounds that they stand in."""
    rows = []
    while reader.ahead() not in ([], ["end"]):
        rows.append(read_row(reader, within))
    if len(rows) == 0:
        raise NoText("there is no row where one must be")
    return tuple(rows)


def read_row(reader, within):
    """The row that is read next, with all that stands in it."""
    words = reader.take()
    if words[0] == "times":
        return read_times(words, reader, within)
    if len(words) < 4 or words[1] != "=":
        raise NoText("a row is NEW = A B x C D, NEW = NAME ONE .. or times N")
    # No name is x, so a crossing can't be taken for a rule that is done.
    if len(words) == 7 and words[4] == "x":
        names = (words[0], words[2], words[3], words[5], words[6])
        look_at_names(names)
        return ("cross",) + names
    look_at_names([words[0]] + words[2:])
    return ("rule", words[0], words[2], tuple(words[3:]))


def read_times(words, reader, within):
    """The rounds that begin with these words, their rows and their end."""
    if within == MOST_WITHIN:
        raise NoText("at most four times stand within one another")
    if len(words) != 2 or words[1] not in [str(number) for number in range(MOST_TIMES + 1)]:
        raise NoText("rounds begin with times N, N from 0 to 60")
    rows = read_rows(reader, within + 1)
    read_end(reader)
    return ("times", int(words[1]), rows)


def shown_drawing(drawing):
    """The text that writes a drawing."""
    pieces = []
    for name, params, out, rows in drawing[0]:
        pieces.append(" ".join(["rule", name] + list(params) + [">", out]))
        pieces.extend(shown_rows(rows))
        pieces.append("end")
    return "; ".join(pieces + shown_rows(drawing[1]))


def shown_rows(rows):
    """The texts of rows, those within rounds and their ends too."""
    pieces = []
    for row in rows:
        if row[0] == "times":
            pieces.append("times " + str(row[1]))
            pieces.extend(shown_rows(row[2]))
            pieces.append("end")
        elif row[0] == "cross":
            pieces.append(" ".join([row[1], "=", row[2], row[3], "x", row[4], row[5]]))
        else:
            pieces.append(" ".join([row[1], "=", row[2]] + list(row[3])))
    return pieces
