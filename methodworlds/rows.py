"""Rows of steps that are still to be done, and the sets of rows that a task comes to."""

from methodworlds.conditions import every_facts, holds
from methodworlds.errors import TooMany

MOST_SETS = 300
MOST_ROWS = 2000
EMPTY = 0


class Rows:
    """The rows that came up, each with a number: the empty row has number 0.

    A row that is not empty is kept as its first step and the number of the rest.
    """

    def __init__(self, book):
        self.book = book
        self.firsts = [None]
        self.rests = [EMPTY]
        self.numbers = {}
        # For each row that begins with a task, the rows with each of its methods in its place.
        self.replaced = {}
        # For all ways in which the facts may hold and each task, the methods that may be taken.
        self.taken = []
        for facts in every_facts(book.facts):
            self.taken.append([[at for at, (when, _) in enumerate(task) if holds(when, facts)] for task in book.tasks])
        # For each of these ways the first one with the same methods.
        self.alike = [self.taken.index(taken) for taken in self.taken]

    def put(self, steps, rest):
        """The number of the row of these steps and, behind them, those of the row with the number rest."""
        row = rest
        for step in reversed(steps):
            if (step, row) not in self.numbers:
                self.numbers[step, row] = len(self.firsts)
                self.firsts.append(step)
                self.rests.append(row)
            row = self.numbers[step, row]
        return row

    def replacing(self, row, taken):
        """The rows in which a method that may be taken stands in the place of the task that begins the row."""
        if row == EMPTY or self.firsts[row][0] == "deed":
            return []
        task = self.firsts[row][1]
        if row not in self.replaced:
            self.replaced[row] = [self.put(steps, self.rests[row]) for _, steps in self.book.tasks[task]]
        return [self.replaced[row][method] for method in taken[task]]

    def come_about(self, rows, taken):
        """The rows that come about from some rows, as a dict of True."""
        found = {row: True for row in rows}
        waiting = list(rows)
        while waiting:
            here = waiting.pop()
            for row in self.replacing(here, taken):
                if row not in found:
                    found[row] = True
                    waiting.append(row)
            if len(found) > MOST_ROWS:
                raise TooMany("nodes")
        return found

    def behind(self, rows):
        """For each deed the set of what is left of the rows that begin with it, as an ascending tuple."""
        found = [{} for _ in range(self.book.deeds)]
        for row in rows:
            if row != EMPTY and self.firsts[row][0] == "deed":
                found[self.firsts[row][1]][self.rests[row]] = True
        return [tuple(sorted(list(each))) for each in found]


class Sets:
    """The sets of rows of a task, each with a number: that of the task alone has number 0."""

    def __init__(self, book, task):
        self.rows = Rows(book)
        first = (self.rows.put((("task", task),), EMPTY),)
        self.numbers = {first: 0}
        self.told = [first]

    def number(self, rows):
        """The number of a set that came up; None for the set that has no row."""
        if rows and rows not in self.numbers:
            self.numbers[rows] = len(self.told)
            self.told.append(rows)
            if len(self.told) > MOST_SETS:
                raise TooMany("nodes")
        return self.numbers.get(rows)

    def node(self, rows):
        """The node of a machine that goes from set to set, for one of the sets."""
        pairs = []
        for at, like in enumerate(self.rows.alike):
            if like < at:
                pairs.append(pairs[like])
            else:
                found = self.rows.come_about(rows, self.rows.taken[at])
                pairs.append((EMPTY in found, tuple([self.number(each) for each in self.rows.behind(found)])))
        return tuple(pairs)


def set_machine(book, task):
    """The machine whose nodes are the sets of a task, as these come up."""
    sets = Sets(book, task)
    nodes = []
    while len(nodes) < len(sets.told):
        nodes.append(sets.node(sets.told[len(nodes)]))
    return tuple(nodes)
