"""The refusals of the program, one class for each."""


class ChalkError(ValueError):
    """Any refusal."""


class NoPlace(ChalkError):
    """Three things that make no place and no line."""


class Same(ChalkError):
    """Two places, or two lines, that are alike; at is the number of the deed, or None where no plan is walked."""

    def __init__(self, at=None):
        self.at = at


class NoFloor(ChalkError):
    """A thing that is no floor."""


class Endless(ChalkError):
    """A floor of which places come without end."""


class NoDeed(ChalkError):
    """A thing in a plan that can not be done; at is its number in the plan."""

    def __init__(self, at):
        self.at = at


class NoText(ChalkError):
    """A thing that does not write what it should."""


class NoName(ChalkError):
    """A name that is none, or is not known, or is there already."""


class TooMany(ChalkError):
    """More than is let."""


class NoChange(ChalkError):
    """Numbers that make no change."""


class NoFrame(ChalkError):
    """Places, or a floor, without the frame that is needed."""


class NoValue(ChalkError):
    """An expression that has no value."""


class Unlike(ChalkError):
    """Two floors that can not be held against one another."""


class NoRatio(ChalkError):
    """Four places that have no cross ratio."""


class NoBow(ChalkError):
    """Places that have no bow."""


class NoRow(ChalkError):
    """A row that a desk does not know."""
