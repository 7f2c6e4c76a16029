"""Seeking a way with the fewest deeds."""

from heapq import heappop, heappush

from methodworlds.following import taken


class Search:
    """Finds parts in the order of their deeds, so that each part names only parts that were found ahead of it.

    A place is a tuple (task, state, method, done, at): the method of the task was taken in the state, so many of its
    steps are done, and at is the state reached. Named are the entries by which the tasks among these steps were done.
    A place that is taken from the queue has the fewest deeds with which it can be come to, as no step takes deeds
    away again; it is passed if it comes up another time.
    """

    def __init__(self, book, world, pairs):
        """Begin all pairs (task, state), which are to be all that can be come to."""
        self.book = book
        self.world = world
        self.queue = []
        self.passed = {}
        # For each entry that was found, its method and the entries named, in the order of finding.
        self.found = {}
        # For each pair the ends that were found with their deeds, and the places that wait for further ones.
        self.finished = {pair: [] for pair in pairs}
        self.waiting = {pair: [] for pair in pairs}
        for task, state in pairs:
            for method in taken(book, world, task, state):
                self.put(0, (task, state, method, 0, state), ())

    def put(self, deeds, place, named):
        if place not in self.passed:
            heappush(self.queue, (deeds, place, named))

    def seek(self, pair, wanted):
        """The entry with the fewest deeds that begins as the pair says and ends in a wanted state; None if none is."""
        while self.queue:
            deeds, place, named = heappop(self.queue)
            if place in self.passed:
                continue
            self.passed[place] = True
            task, state, method, done, at = place
            if done < len(self.book.tasks[task][method][1]):
                self.go_on(deeds, place, named)
            elif (task, state, at) not in self.found:
                self.found[task, state, at] = (method, named)
                if (task, state) == pair and at in wanted:
                    return (task, state, at)
                self.hand_on(deeds, (task, state, at))
        return None

    def seek_all(self):
        """Find all entries."""
        self.seek(None, ())

    def go_on(self, deeds, place, named):
        """Do the next step of a place."""
        task, state, method, done, at = place
        word, number = self.book.tasks[task][method][1][done]
        if word == "task":
            self.waiting[number, at].append((deeds, place, named))
            for end, more in self.finished[number, at]:
                self.put(deeds + more, (task, state, method, done + 1, end), (*named, (number, at, end)))
        elif self.world.moves[at][number] is not None:
            self.put(deeds + 1, (task, state, method, done + 1, self.world.moves[at][number]), named)

    def hand_on(self, deeds, entry):
        """Let the places go on that wait for the task of an entry that was found."""
        pair = entry[:2]
        end = entry[2]
        self.finished[pair].append((end, deeds))
        for sofar, (task, state, method, done, _), named in self.waiting[pair]:
            self.put(sofar + deeds, (task, state, method, done + 1, end), (*named, entry))

    def needed(self, lasts):
        """The entries of the parts that a proof of the entries told needs, each one behind those that it names."""
        wanted = {entry: True for entry in lasts}
        for entry in reversed(list(self.found)):
            if entry in wanted:
                for other in self.found[entry][1]:
                    wanted[other] = True
        return [entry for entry in self.found if entry in wanted]

    def parts(self, order):
        """The parts of the entries, in this order."""
        numbers = {entry: at for at, entry in enumerate(order)}
        parts = []
        for entry in order:
            method, named = self.found[entry]
            parts.append((*entry, method, tuple([numbers[other] for other in named])))
        return tuple(parts)
