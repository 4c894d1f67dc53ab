"""Opening: the rows of a drawing done one by one, as the deeds of a plan."""

from chalkline.errors import NoName, TooMany

MOST_BEGUN = 4000


def opened(names, drawing):
    """The plan of a drawing, and the numbers of pegs by the names that are known at its end."""
    known = dict([(name, number) for number, name in enumerate(names)])
    rules = drawing[0]
    opening = Opening(rules, len(names))
    opening.put_off(drawing[1], (known, len(rules)))
    opening.do_all()
    return (opening.plan, known)


class Opening:
    """What is done of a drawing, and what waits to be done.

    A task is a row, or ("round", n, rows), n rounds that are left, or ("out", new, out, inner), the end of a rule
    within which the names of inner are known. With it goes its scope: a dict of the names that are known there, and
    how many of the drawing's rules stand ahead.
    """

    def __init__(self, rules, pegs):
        self.rules = rules
        self.pegs = pegs
        self.lines = 0
        self.plan = []
        self.begun = 0
        # Rules within rules and rounds may go deep; tasks that wait need no depth of calls.
        self.waiting = []

    def put_off(self, tasks, scope):
        """Lets tasks wait, in their order, ahead of all that wait already."""
        for task in reversed(tasks):
            self.waiting.append((task, scope))

    def do_all(self):
        """Does what waits until nothing does."""
        while len(self.waiting) > 0:
            pair = self.waiting.pop()
            self.do_task(pair[0], pair[1])

    def do_task(self, task, scope):
        """Does one task; a row and a round count as they begin, ahead of all else."""
        if task[0] == "round":
            self.do_round(task, scope)
        elif task[0] == "out":
            self.do_out(task, scope)
        else:
            self.begin()
            self.do_row(task, scope)

    def begin(self):
        """Counts a row or a round."""
        if self.begun == MOST_BEGUN:
            raise TooMany("more than 4000 rows and rounds are begun")
        self.begun += 1

    def do_row(self, row, scope):
        """Does a row that is begun."""
        if row[0] == "cross":
            self.do_cross(row, scope[0])
        elif row[0] == "rule":
            self.do_rule(row, scope)
        else:
            self.put_off([("round", row[1], row[2])], scope)

    def do_cross(self, row, known):
        """Two lines and the peg at which they cross."""
        pegs = [peg_of(name, known) for name in row[2:]]
        self.plan.append(("line", pegs[0], pegs[1]))
        self.plan.append(("line", pegs[2], pegs[3]))
        self.plan.append(("peg", self.lines, self.lines + 1))
        known[row[1]] = self.pegs
        self.lines += 2
        self.pegs += 1

    def do_rule(self, row, scope):
        """Lets a rule's rows wait, and behind them its end."""
        number = self.rule_number(row[2], scope[1])
        rule = self.rules[number]
        params = rule[1]
        if len(row[3]) != len(params):
            raise NoName("a rule is done with another number of pegs than it has params")
        inner = dict(zip(params, [peg_of(name, scope[0]) for name in row[3]]))
        self.put_off([("out", row[1], rule[2], inner)], scope)
        self.put_off(rule[3], (inner, number))

    def rule_number(self, name, ahead):
        """The number of the rule of this name among the first ones, so many as stand ahead."""
        for number in range(ahead):
            if self.rules[number][0] == name:
                return number
        raise NoName("no rule ahead has this name")

    def do_out(self, task, scope):
        """Gives the peg of a rule's end its name outside the rule."""
        scope[0][task[1]] = peg_of(task[2], task[3])

    def do_round(self, task, scope):
        """Lets a round's rows wait, and behind them the rounds that are left."""
        if task[1] > 0:
            self.begin()
            self.put_off([("round", task[1] - 1, task[2])], scope)
            self.put_off(task[2], scope)


def peg_of(name, known):
    """The number of the peg that a name has."""
    if name not in known:
        raise NoName("a name is not known")
    return known[name]
