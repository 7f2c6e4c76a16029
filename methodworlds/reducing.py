"""Reducing: which methods can be left out, so that a task still accepts the same strings."""

from itertools import combinations

from methodworlds.arguments import need_tails
from methodworlds.books import are_method_places, leads, without
from methodworlds.errors import TooMany
from methodworlds.kinds import is_row, plain
from methodworlds.machines import normal
from methodworlds.strings import is_string
from methodworlds.walking import is_walked, string_apart

MOST_OWN = 6


def needless(book, task):
    """The pairs (task, method) of the methods without each of which, alone, the task accepts the same strings."""
    need_tails(book, task)
    machine = normal(book, task)
    found = []
    for which, methods in enumerate(book.tasks):
        for method in range(len(methods)):
            if normal(without(book, ((which, method),)), task) == machine:
                found.append((which, method))
    return tuple(found)


def own_methods(book, task):
    """The pairs (task, method) of the methods of the task and of those to which it leads, ascending."""
    led = leads(book)[task]
    own = []
    for which, methods in enumerate(book.tasks):
        if which == task or led[which]:
            own.extend([(which, method) for method in range(len(methods))])
    return own


def own_machines(book, task):
    """For each choice of own methods of the task its normal machine with these alone.

    The choices are in the order of how many methods they have, those of as many ascending; the last one is of all.
    """
    # The task with all of its methods is asked first: it may have too many nodes as well as too many own methods.
    normal(book, task)
    own = own_methods(book, task)
    if len(own) > MOST_OWN:
        raise TooMany("methods")
    machines = {}
    for many in range(len(own) + 1):
        for choice in combinations(own, many):
            machines[choice] = normal(without(book, [pair for pair in own if pair not in choice]), task)
    return machines


def one_less(machines, kept):
    """The choices of one method less than are kept, in their order."""
    return [choice for choice in machines if len(choice) == len(kept) - 1]


def fewest(book, task):
    """As few own methods as can be with which the task accepts the same strings, and what is lost with one less.

    This is told by a pair for each choice of one method less: the choice, and a string that the task accepts, but not
    with this choice alone.
    """
    need_tails(book, task)
    machines = own_machines(book, task)
    machine = machines[tuple(own_methods(book, task))]
    kept = [choice for choice in machines if machines[choice] == machine][0]
    proofs = []
    for choice in one_less(machines, kept):
        proofs.append((choice, string_apart(book.facts, machine, machines[choice], False)))
    return (kept, tuple(proofs))


def is_loss(book, machine, lesser, choice, value):
    """Whether the value is a pair of this choice and of a string that the lesser machine alone does not accept."""
    if not is_row(value, 2, 2):
        return False
    them, string = value
    if not are_method_places(book, them) or plain(them) != choice or not is_string(book, string):
        return False
    return is_walked(machine, string) and not is_walked(lesser, string)


def fewest_holds(book, task, kept, proofs):
    """Whether these are the fewest own methods, as fewest tells them, and strings which show it."""
    need_tails(book, task)
    machines = own_machines(book, task)
    machine = machines[tuple(own_methods(book, task))]
    if not are_method_places(book, kept) or machines.get(plain(kept)) != machine:
        return False
    choices = one_less(machines, kept)
    if not is_row(proofs, len(choices), len(choices)):
        return False
    for choice, proof in zip(choices, proofs):
        if not is_loss(book, machine, machines[choice], choice, proof):
            return False
    return True
