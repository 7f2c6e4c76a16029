"""Proofs: sequences of parts (task, state, end, method, places), each built from earlier ones."""

from methodworlds.conditions import holds
from methodworlds.kinds import are_numbers, is_number, is_row, is_sequence


def reached(world, proof, steps, state, places):
    """The state behind the steps from a state, the tasks among them done by the parts that places tell, one each.

    None if they do not lead anywhere so.
    """
    if len(places) != len([number for word, number in steps if word == "task"]):
        return None
    here = state
    used = 0
    for word, number in steps:
        if word == "deed":
            here = world.moves[here][number]
        else:
            task, start, end = proof[places[used]][:3]
            here = end if (task, start) == (number, here) else None
            used += 1
        if here is None:
            return None
    return here


def is_taken(book, world, task, state, method):
    """Whether these are numbers of what there is, the method being one that may be taken in the state."""
    if not is_number(task, len(book.tasks)) or not is_number(state, len(world)):
        return False
    if not is_number(method, len(book.tasks[task])):
        return False
    return holds(book.tasks[task][method][0], world.states[state])


def is_right(book, world, proof, at):
    """Whether a part of a proof is right; all earlier ones are."""
    if not is_row(proof[at], 5, 5):
        return False
    task, state, end, method, places = proof[at]
    if not is_taken(book, world, task, state, method):
        return False
    if not is_number(end, len(world)) or not are_numbers(places, at):
        return False
    return reached(world, proof, book.tasks[task][method][1], state, places) == end


def are_right(book, world, proof):
    """Whether the value is a sequence of parts, all of them right; it may be empty."""
    if not is_sequence(proof):
        return False
    for at in range(len(proof)):
        if not is_right(book, world, proof, at):
            return False
    return True


def count_deeds(book, proof):
    """How many deeds the last part of a proof has whose parts are all right."""
    counts = []
    for task, _, _, method, places in proof:
        steps = book.tasks[task][method][1]
        own = len([number for word, number in steps if word == "deed"])
        counts.append(own + sum([counts[place] for place in places]))
    return counts[-1]
