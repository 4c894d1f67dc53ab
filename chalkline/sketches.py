"""Sketches: plans in the making, drawn by the four pegs of a frame alone."""


class Sketch:
    """A plan in the making.

    The frame's pegs are spoken of as if they were the standard frame: east (1, 0, 0), north (0, 1, 0), corner
    (0, 0, 1) and top (1, 1, 1). A number t stands at (t, 0, 1), on the base line. Crossings alone are drawn, and a
    change leads crossings to crossings, so whatever holds by the standard frame holds by any other one.
    """

    def __init__(self, frame, pegs):
        self.east = frame[0]
        self.north = frame[1]
        self.corner = frame[2]
        self.top = frame[3]
        self.pegs = pegs
        self.lines = 0
        self.plan = []
        # The number that came of each deed, so that none is done twice.
        self.drawn = {}

    def line(self, one, other):
        """The number of the line through two pegs."""
        deed = ("line", one, other)
        if deed not in self.drawn:
            self.drawn[deed] = self.lines
            self.lines += 1
            self.plan.append(deed)
        return self.drawn[deed]

    def peg(self, one, other):
        """The number of the peg where two lines cross."""
        deed = ("peg", one, other)
        if deed not in self.drawn:
            self.drawn[deed] = self.pegs
            self.pegs += 1
            self.plan.append(deed)
        return self.drawn[deed]

    def base(self):
        """The line of all (t, 0, 1)."""
        return self.line(self.corner, self.east)

    def upright(self):
        """The line of all (0, t, 1)."""
        return self.line(self.corner, self.north)

    def far(self):
        """The line of all far places."""
        return self.line(self.east, self.north)

    def level(self):
        """The line of all (t, 1, 1)."""
        return self.line(self.east, self.top)

    def unit(self):
        """The peg at (1, 0, 1)."""
        return self.peg(self.base(), self.line(self.north, self.top))

    def high(self):
        """The peg at (0, 1, 1)."""
        return self.peg(self.upright(), self.level())

    def heading(self, one, other):
        """The far peg on the line through two near ones."""
        return self.peg(self.far(), self.line(one, other))

    def falling(self):
        """The far peg at (-1, 1, 0)."""
        return self.heading(self.high(), self.unit())

    def slid(self, far, near):
        """The peg on the base line at which the line through a far peg and a near one meets it."""
        return self.peg(self.base(), self.line(far, near))

    def raised(self, number):
        """The peg at (t, 1, 1) above a number t."""
        return self.peg(self.level(), self.line(number, self.north))

    def turned(self, number):
        """The peg at (0, t, 1) for a number t."""
        return self.peg(self.upright(), self.line(number, self.falling()))

    def spot(self, number, other):
        """The peg at (s, t, 1) for two numbers s and t."""
        return self.peg(self.line(number, self.north), self.line(self.turned(other), self.east))

    # None of these four stumbles, whatever the numbers are: all are near and on the base line, what is raised is off
    # it, and no far peg by which one slides is east (of a quotient, as long as it is not by 0).

    def added(self, number, other):
        """The sum of two numbers."""
        return self.slid(self.heading(self.high(), other), self.raised(number))

    def less(self, number, other):
        """A number less another."""
        return self.slid(self.heading(self.corner, self.raised(other)), self.raised(number))

    def product(self, number, other):
        """The product of two numbers."""
        return self.slid(self.heading(self.high(), number), self.turned(other))

    def quotient(self, number, other):
        """A number by another, which is not 0."""
        return self.slid(self.heading(self.turned(other), number), self.high())

    def slope(self, step):
        """The line of all (t, t + step, 1), for a step of -1, 0 or 1."""
        diagonal = self.line(self.corner, self.top)
        if step == 0:
            return diagonal
        near = self.high() if step == 1 else self.unit()
        return self.line(near, self.peg(self.far(), diagonal))

    def doubled(self, number, step):
        """The double of a number and a step of -1, 0 or 1 more."""
        rise = self.peg(self.line(number, self.north), self.slope(step))
        return self.slid(self.falling(), rise)

    def whole(self, number):
        """The peg of a whole number, made by its figures to the base two, the highest first."""
        size = abs(number)
        step = 1 if number > 0 else -1
        peg = self.corner
        for at in range(size.bit_length() - 1, -1, -1):
            peg = self.doubled(peg, step * ((size >> at) & 1))
        return peg
