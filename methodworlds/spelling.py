"""Which rows of deeds are courses of which tasks, from the shortest rows on."""

from methodworlds.marks import Marks


class Spelling:
    """For rows of deeds, each from a state, the marks that they reach and the tasks that are done with them.

    The marks reached are those of the methods that are begun in that very state, at which the row has just been done.
    """

    def __init__(self, book, held):
        """Held tells for each state which facts hold there."""
        self.marks = Marks(book)
        self.held = held
        self.reached = {}
        self.done = {}

    def spell(self, deeds, path):
        """Take a row of deeds along a path of states; all shorter rows from these states were taken ahead."""
        start = path[0]
        found = self.opened(deeds, path) if deeds else self.marks.begun(self.held[start])
        more = self.widened(deeds, path, found)
        while more != found:
            found = more
            more = self.widened(deeds, path, found)
        self.reached[start, deeds] = found
        self.done[start, deeds] = self.marks.ended(found)

    def opened(self, deeds, path):
        """The marks that are reached if the last step done is a deed, or a task that did a part of the deeds."""
        found = self.marks.behind_deed(self.reached[path[0], deeds[:-1]], deeds[-1])
        for cut in range(1, len(deeds)):
            marks = self.reached[path[0], deeds[:cut]]
            found |= self.marks.behind_tasks(marks, self.done[path[cut], deeds[cut:]])
        return found

    def widened(self, deeds, path, found):
        """The marks found, and those behind one more task that did all of the deeds or none of them."""
        ended = self.marks.ended(found)
        if not deeds:
            return found | self.marks.behind_tasks(found, ended)
        found |= self.marks.behind_tasks(self.reached[path[0], ()], ended)
        return found | self.marks.behind_tasks(found, self.done[path[-1], ()])


def deeds_left(world, state, most):
    """For each state that is come to with at most so many deeds, how many of them are left there at best."""
    left = {state: most}
    near = [state]
    while near:
        here = near.pop(0)
        for to in world.moves[here]:
            if left[here] > 0 and to is not None and to not in left:
                left[to] = left[here] - 1
                near.append(to)
    return left


def longer(world, lines):
    """The rows of one deed more, ascending as the lines are; a line is a pair of deeds and their path."""
    found = []
    for deeds, path in lines:
        for deed, to in enumerate(world.moves[path[-1]]):
            if to is not None:
                found.append(((*deeds, deed), (*path, to)))
    return found


def spelled(book, world, state, most):
    """The Spelling of all rows of at most so many deeds from the state, and of all that stands in them."""
    spelling = Spelling(book, world.states)
    left = deeds_left(world, state, most)
    lines = {start: [((), (start,))] for start in left}
    for length in range(most + 1):
        for start in lines:
            for deeds, path in lines[start]:
                spelling.spell(deeds, path)
        lines = {start: longer(world, lines[start]) for start in lines if left[start] > length}
    return spelling


def is_spelled(book, task, facts, deeds):
    """Whether the task can be done with just these deeds in a world that is a line of states with these facts."""
    spelling = Spelling(book, facts)
    for length in range(len(deeds) + 1):
        for start in range(len(facts) - length):
            spelling.spell(deeds[start:start + length], tuple(range(start, start + length + 1)))
    return task in spelling.done[0, deeds]
