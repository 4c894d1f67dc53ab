"""Rounds: all that comes of a floor at once, again and again, and how soon a place comes."""

from chalkline.errors import TooMany
from chalkline.floors import look_at
from chalkline.places import crossing, through


def rounds(floor, many, most):
    """For each of so many rounds the places that come in it and were not there ahead of it, sorted."""
    look_at(floor)
    look_at_number(len(floor), most)
    came = begun_with(floor)
    told = []
    for turn in range(many):
        fresh = fresh_in(came, most)
        told.append(sorted(fresh))
        came.update(fresh)
    return told


def how_soon(floor, place, many, most):
    """The number of the round in which a place comes, with a plan whose last peg it is, or None."""
    look_at(floor)
    came = begun_with(floor)
    if place in came:
        return (0, [])
    look_at_number(len(floor), most)
    for turn in range(many):
        came.update(fresh_in(came, most))
        if place in came:
            return (turn + 1, plan_to(place, floor, came))
    return None


def look_at_number(pegs, most):
    """Refuses a number of pegs that is above most."""
    if pegs > most:
        raise TooMany("there would be more pegs than are let")


def begun_with(floor):
    """A dict of what came, each place with the four by which it came; the floor's pegs came by none."""
    return dict([(peg, ()) for peg in floor])


def fresh_in(came, most):
    """The places that come in the next round, each with four pegs: those of the two lines that cross there."""
    fresh = {}
    lines = {}
    # A line is crossed with those ahead of it as soon as it is snapped, so that too many pegs are seen early: some
    # hundred pegs have more lines than can be crossed with one another in a short time.
    for pair in pairs_of(list(came)):
        line = through(pair[0], pair[1])
        if line not in lines:
            for place, other in crossed_with(line, lines):
                if place not in came and place not in fresh:
                    fresh[place] = other + pair
                    look_at_number(len(came) + len(fresh), most)
            lines[line] = pair
    return fresh


def pairs_of(pegs):
    """All pairs of pegs, those of the first ones first."""
    pairs = []
    for number, other in enumerate(pegs):
        pairs.extend([(one, other) for one in pegs[:number]])
    return pairs


def crossed_with(line, lines):
    """Where a line crosses each of others, with the pair of pegs of that one."""
    return [(crossing(line, older), lines[older]) for older in lines]


def plan_to(place, floor, came):
    """A plan whose last peg is a place that came, of the pegs by which it came and those by which these came."""
    needed = {place: True}
    # A peg came of such ahead of it alone, so from behind each is seen as needed ahead of its own turn.
    for peg in reversed(list(came)):
        if peg in needed:
            needed.update([(parent, True) for parent in came[peg]])
    numbers = dict([(peg, number) for number, peg in enumerate(floor)])
    plan = []
    for peg in came:
        if peg in needed and peg not in numbers:
            four = [numbers[parent] for parent in came[peg]]
            done = len(numbers) - len(floor)
            plan.extend([("line", four[0], four[1]), ("line", four[2], four[3]), ("peg", 2 * done, 2 * done + 1)])
            numbers[peg] = len(numbers)
    return plan
