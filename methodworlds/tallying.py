"""Tallying the ways of doing tasks, from those with the fewest deeds on."""

from methodworlds.following import taken
from methodworlds.solving import solved


class Tally:
    """How many ways there are of doing tasks, and methods as far as a step, for each number of deeds.

    What is done is written (task,) or (task, method, at): so many steps of the method. counts has for each of these
    and for each state from which it is done a list: for each number of deeds a dict that gives for the states behind
    how many ways lead there, None if there is no end of them; states to which no way leads are left out.
    """

    def __init__(self, book, world, pairs):
        """Pairs (task, state) are to be all that can be come to."""
        self.book = book
        self.world = world
        self.doable = [[] for _ in world.states]
        for task, state in pairs:
            self.doable[state].append((task,))
            for method in taken(book, world, task, state):
                for at in range(len(book.tasks[task][method][1]) + 1):
                    self.doable[state].append((task, method, at))
        self.counts = {}
        for state, told in enumerate(self.doable):
            for done in told:
                self.counts[done, state] = []

    def tally(self, deeds):
        """Take the ways with so many deeds; those with fewer deeds were taken ahead."""
        for state, told in enumerate(self.doable):
            terms = {}
            for done in told:
                found = self.terms(done, state, deeds)
                for end in found:
                    terms[done, end] = found[end]
            counts = {done: {} for done in told}
            found = solved(terms)
            for done, end in found:
                counts[done][end] = found[done, end]
            for done in told:
                self.counts[done, state].append(counts[done])

    def terms(self, done, state, deeds):
        """For each state behind the terms that tell how many ways lead there, in the sense of solved."""
        if len(done) == 1:
            return self.task_terms(done[0], state)
        task, method, at = done
        if at == 0:
            return {state: [(1, ())]} if deeds == 0 else {}
        word, number = self.book.tasks[task][method][1][at - 1]
        ahead = (task, method, at - 1)
        if word == "deed":
            return self.deed_terms(ahead, number, state, deeds)
        if deeds == 0:
            return {state: [(1, ((ahead, state), ((number,), state)))]}
        return self.step_terms(ahead, (number,), state, deeds)

    def task_terms(self, task, state):
        found = {}
        for method in taken(self.book, self.world, task, state):
            done = (task, method, len(self.book.tasks[task][method][1]))
            for end in range(len(self.world)):
                found.setdefault(end, []).append((1, ((done, end),)))
        return found

    def deed_terms(self, ahead, deed, state, deeds):
        found = {}
        if deeds > 0:
            counts = self.counts[ahead, state][deeds - 1]
            for here in counts:
                if self.world.moves[here][deed] is not None:
                    found.setdefault(self.world.moves[here][deed], []).append((counts[here], ()))
        return found

    def step_terms(self, ahead, step, state, deeds):
        """The terms of a task as the next step, with some deeds."""
        found = self.shared(ahead, step, state, deeds)
        first = self.counts[ahead, state][0]
        for end in range(len(self.world)):
            terms = [(found[end], ())] if end in found else []
            # Either the step takes all of the deeds, or it takes none of them.
            if state in first:
                terms.append((first[state], ((step, end),)))
            if (step, end) in self.counts and end in self.counts[step, end][0]:
                terms.append((self.counts[step, end][0][end], ((ahead, end),)))
            found[end] = terms
        return found

    def shared(self, ahead, step, state, deeds):
        """For each state behind the ways in which both the step and what is ahead of it take some of the deeds."""
        found = {}
        for many in range(1, deeds):
            counts = self.counts[ahead, state][many]
            for here in counts:
                left = counts[here]
                for end, right in self.counts[step, here][deeds - many].items():
                    if left is None or right is None or found.get(end, 0) is None:
                        found[end] = None
                    else:
                        found[end] = found.get(end, 0) + left * right
        return found
