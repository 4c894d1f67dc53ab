"""Plans: lists of deeds, walked over places."""

from chalkline.errors import NoDeed, Same
from chalkline.places import crossing, is_whole, through


def walked(places, plan):
    """The places of all pegs and all lines, by numbers, behind a plan's last deed."""
    pegs = list(places)
    lines = []
    for at, deed in enumerate(plan):
        if not is_deed(deed):
            raise NoDeed(at)
        if deed[0] == "line":
            pair = pair_of(pegs, deed, at)
            lines.append(through(pair[0], pair[1]))
        else:
            pair = pair_of(lines, deed, at)
            pegs.append(crossing(pair[0], pair[1]))
    return (pegs, lines)


def is_deed(thing):
    """Whether a thing is a deed by its form; which numbers there are by then is not looked at here."""
    if not isinstance(thing, tuple) or len(thing) != 3:
        return False
    if not isinstance(thing[0], str) or thing[0] not in ("line", "peg"):
        return False
    return is_whole(thing[1]) and is_whole(thing[2])


def pair_of(known, deed, at):
    """The two of the known pegs (or lines) that the deed number at names, which must be unlike."""
    for number in (deed[1], deed[2]):
        # Below 0 an index would count from behind, but no peg and no line has such a number.
        if not 0 <= number < len(known):
            raise NoDeed(at)
    one = known[deed[1]]
    other = known[deed[2]]
    if one == other:
        raise Same(at)
    return (one, other)
