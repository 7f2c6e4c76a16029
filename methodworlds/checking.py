"""Checking ways and tables, without a search."""

from methodworlds.arguments import need_fitting, need_start, need_wanted
from methodworlds.errors import BadValue, TooMany
from methodworlds.following import followed
from methodworlds.kinds import are_ascending_numbers, is_ascending, is_number, is_row, is_sequence
from methodworlds.proofs import are_right

MOST_UNROLLED = 1000


def way_holds(book, world, task, state, wanted, proof):
    """Whether the value is a proof that the task can be done from the state to a wanted one."""
    need_start(book, world, task, state)
    need_wanted(world, wanted)
    if not are_right(book, world, proof) or len(proof) == 0:
        return False
    last, start, end = proof[-1][:3]
    return (last, start) == (task, state) and end in wanted


def deeds_of(book, part, told):
    """The deeds of a part, for those of the earlier parts; None for too many of them."""
    task, _, _, method, places = part
    deeds = []
    used = 0
    for word, number in book.tasks[task][method][1]:
        if word == "deed":
            deeds.append(number)
        elif told[places[used]] is None:
            return None
        else:
            deeds.extend(told[places[used]])
            used += 1
    return deeds if len(deeds) <= MOST_UNROLLED else None


def unrolled(book, world, proof):
    """The deeds of the last part of a proof."""
    need_fitting(book, world)
    if not are_right(book, world, proof) or len(proof) == 0:
        raise BadValue(3)
    # A proof can tell more deeds than could be written out, so what is too long is not built at all.
    told = []
    for part in proof:
        told.append(deeds_of(book, part, told))
    if told[-1] is None:
        raise TooMany("deeds")
    return tuple(told[-1])


def is_triple(book, world, value):
    """Whether the value is a triple of a task, a state and ascending ends."""
    if not is_row(value, 3, 3):
        return False
    task, state, ends = value
    if not is_number(task, len(book.tasks)) or not is_number(state, len(world)):
        return False
    return are_ascending_numbers(ends, len(world))


def is_table(book, world, value):
    """Whether the value is a table, closed or not."""
    if not is_sequence(value) or not all([is_triple(book, world, triple) for triple in value]):
        return False
    return is_ascending([(task, state) for task, state, _ in value])


def is_closed(book, world, table):
    """Whether no more ends, tasks and states are come to than a table has, given as a dict of sets of ends."""
    asked = {pair: table[pair] for pair in table}
    for task, state in table:
        if followed(book, world, asked, task, state) | table[task, state] != table[task, state]:
            return False
    # What is come to without a triple has got a place among those asked for.
    return len(asked) == len(table)


def table_holds(book, world, task, state, wanted, table):
    """Whether the value is a closed table that shows that the task does not end in a wanted state."""
    need_start(book, world, task, state)
    need_wanted(world, wanted)
    if not is_table(book, world, table):
        return False
    ends = {(which, start): told for which, start, told in table}
    if (task, state) not in ends or any([end in wanted for end in ends[task, state]]):
        return False
    return is_closed(book, world, {pair: sum([1 << end for end in ends[pair]]) for pair in ends})
