"""Doing a task in a world: where it can end, with which courses, and a way to wanted states or why there is none."""

from methodworlds.arguments import need_fitting, need_start, need_wanted
from methodworlds.errors import BadValue
from methodworlds.following import least_table, members
from methodworlds.kinds import is_between, is_number, is_row
from methodworlds.seeking import Search
from methodworlds.spelling import spelled

MOST_COURSE = 5


def is_entry(book, world, value):
    """Whether value is a triple of the numbers of a task and of two states."""
    need_fitting(book, world)
    if not is_row(value, 3, 3):
        return False
    task, state, end = value
    return is_number(task, len(book.tasks)) and is_number(state, len(world)) and is_number(end, len(world))


def ends(book, world, task, state):
    """The states in which the task, begun in the state, can end."""
    need_start(book, world, task, state)
    return tuple(members(least_table(book, world, task, state)[task, state]))


def courses(book, world, task, state, most):
    """The courses of at most so many deeds of the task from the state."""
    need_start(book, world, task, state)
    if not is_between(most, 0, MOST_COURSE):
        raise BadValue(5)
    done = spelled(book, world, state, most).done
    return tuple([deeds for start, deeds in done if start == state and task in done[start, deeds]])


def plan(book, world, task, state, wanted):
    """A way from the state to a wanted state with the fewest deeds, or the table that shows that there is none."""
    need_start(book, world, task, state)
    need_wanted(world, wanted)
    table = least_table(book, world, task, state)
    if not [end for end in members(table[task, state]) if end in wanted]:
        return ("table", tuple([(*pair, tuple(members(table[pair]))) for pair in sorted(list(table))]))
    search = Search(book, world, list(table))
    last = search.seek((task, state), wanted)
    return ("way", search.parts(search.needed([last])))
