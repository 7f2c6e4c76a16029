"""Counting ways."""

from methodworlds.arguments import need_start, need_wanted
from methodworlds.errors import BadValue
from methodworlds.following import least_table
from methodworlds.kinds import is_between
from methodworlds.tallying import Tally

MOST_TALLIED = 12


def ways(book, world, task, state, wanted, deeds):
    """How many ways with so many deeds lead from the state to a wanted one; None if there is no end of them."""
    need_start(book, world, task, state)
    need_wanted(world, wanted)
    if not is_between(deeds, 0, MOST_TALLIED):
        raise BadValue(6)
    tally = Tally(book, world, list(least_table(book, world, task, state)))
    for many in range(deeds + 1):
        tally.tally(many)
    counts = tally.counts[(task,), state][deeds]
    found = [counts[end] for end in wanted if end in counts]
    return None if None in found else sum(found)
