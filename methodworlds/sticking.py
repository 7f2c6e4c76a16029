"""Getting stuck: at a task of which no method may be taken, or at a deed that cannot be done.

A spot is a pair (step, state): the step is to be done in this state.
"""

from methodworlds.arguments import need_start
from methodworlds.following import least_table, members, taken
from methodworlds.kinds import are_numbers, is_number, is_row, is_sequence
from methodworlds.proofs import are_right, is_taken, reached
from methodworlds.seeking import Search


def is_dead_end(book, world, spot):
    """Whether nobody can go on at the spot."""
    (word, number), state = spot
    if word == "deed":
        return world.moves[state][number] is None
    return not taken(book, world, number, state)


def onward(world, table, step, behind):
    """For each state behind one more step the entries used so far; behind tells them for the states ahead of it."""
    word, number = step
    found = {}
    for state in behind:
        if word == "task":
            for end in members(table[number, state]):
                found.setdefault(end, (*behind[state], (number, state, end)))
        elif world.moves[state][number] is not None:
            found.setdefault(world.moves[state][number], behind[state])
    return found


def spots_behind(book, world, table, spot):
    """The spots that are come to by the methods of the task at a spot, each with the place that leads to it.

    A place is a tuple (task, state, method, step, entries).
    """
    (word, task), state = spot
    found = []
    if word == "deed":
        return found
    for method in taken(book, world, task, state):
        behind = {state: ()}
        for at, step in enumerate(book.tasks[task][method][1]):
            for here in behind:
                found.append(((step, here), (task, state, method, at, behind[here])))
            behind = onward(world, table, step, behind)
    return found


def places_to(came, spot):
    """The places that lead to a spot, in order; came tells the last one of each spot, None of the first spot."""
    places = []
    place = came[spot]
    while place is not None:
        places.append(place)
        place = came[("task", place[0]), place[1]]
    return places[::-1]


def proved(book, world, table, places):
    """The pair of the places, with numbers of parts in the place of their entries, and a proof with these parts."""
    search = Search(book, world, list(table))
    search.seek_all()
    order = search.needed([entry for place in places for entry in place[4]])
    numbers = {entry: at for at, entry in enumerate(order)}
    told = []
    for task, state, method, step, entries in places:
        told.append((task, state, method, step, tuple([numbers[entry] for entry in entries])))
    return (tuple(told), search.parts(order))


def stuck(book, world, task, state):
    """Places that lead to where somebody is stuck who breaks the task down, and a proof; None if nobody ever is."""
    need_start(book, world, task, state)
    table = least_table(book, world, task, state)
    first = (("task", task), state)
    came = {first: None}
    waiting = [first]
    while waiting:
        spot = waiting.pop(0)
        if is_dead_end(book, world, spot):
            return proved(book, world, table, places_to(came, spot))
        for other, place in spots_behind(book, world, table, spot):
            if other not in came:
                came[other] = place
                waiting.append(other)
    return None


def is_place(book, world, proof, value):
    """Whether the value is a tuple of a task, a state, a method that may be taken, a step of it and parts."""
    if not is_row(value, 5, 5):
        return False
    task, state, method, step, used = value
    if not is_taken(book, world, task, state, method):
        return False
    return is_number(step, len(book.tasks[task][method][1])) and are_numbers(used, len(proof))


def spot_of(book, world, proof, place):
    """The spot to which a place leads; None if the steps ahead of it do not lead anywhere."""
    task, state, method, step, used = place
    steps = book.tasks[task][method][1]
    here = reached(world, proof, steps[:step], state, used)
    return None if here is None else (steps[step], here)


def stuck_holds(book, world, task, state, value):
    """Whether the value is a pair of places, which lead to where one is stuck, and of a proof."""
    need_start(book, world, task, state)
    if not is_row(value, 2, 2) or not is_sequence(value[0]) or not are_right(book, world, value[1]):
        return False
    places, proof = value
    spot = (("task", task), state)
    for place in places:
        if not is_place(book, world, proof, place) or spot != (("task", place[0]), place[1]):
            return False
        spot = spot_of(book, world, proof, place)
        if spot is None:
            return False
    return is_dead_end(book, world, spot)
