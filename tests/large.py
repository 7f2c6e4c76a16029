"""Books as large as they may be for machines, and ones that are larger by one set or by one row."""

from methodworlds.books import Book
from tests.reference import deed, method, task


def levels(*told, facts=0, first=None):
    """A book of tasks, each with so many methods that begin with the next task, and so many with a deed alone."""
    tasks = [] if first is None else [first]
    for many, alone in told:
        lower = task(len(tasks) + 1)
        tasks.append([*[method(lower, deed(at)) for at in range(many)], *[method(deed(at)) for at in range(alone)]])
    return Book(facts, 5, tasks)


def chain(*told, last=()):
    """A book in which each task has one method: words of the numbers of tasks, and d for a deed."""
    tasks = [(method(*[deed(0) if sign == "d" else task(int(sign)) for sign in word]),) for word in told]
    return Book(0, 2, (*tasks, *last))


def guess(tail, line, middle):
    """A book whose task 0 has few sets, but many without its method 2.

    Without this method each set tells behind which of the last deeds the fact held.
    """
    methods = (
        method(deed(0), task(0)),
        method(deed(0), *tail, when=((0, True),)),
        method(deed(0), *tail),
        method(deed(1), *line),
    )
    return Book(1, 2, (methods, (method(*[deed(0)] * 4),), (method(*middle),)))


# Task 0 of each of these has as many sets as the name tells, and 6 own methods.
SETS_300 = chain("13354", "2d2", "d3334", "54545", "dddd5", "ddddd")
SETS_301 = chain("531", "2224", "344d4", "d44", "5d55", "ddddd")

# From the one set of task 0 so many rows come about. It has 6 own methods; nothing is accepted by that of the first
# book, as it never comes to an end, but the empty string by that of the second one.
ROWS_2000 = chain("11130", "22223", "33333", "44444", "55555", "")
ROWS_2001 = chain("1113", "22223", "33333", "44444", "55555", "")

# From one of the sets of task 0 so many rows come about. It has more than 6 own methods.
MANY_ROWS_2000 = levels((3, 1), (5, 0), (4, 0), (4, 0), (3, 1), (0, 1))
MANY_ROWS_2001 = levels((5, 0), (3, 0), (4, 0), (4, 0), (3, 1), (0, 1))

# Without method 2 of task 0 this task has as many sets as the name tells; it has 6 own methods.
LESS_300 = guess((task(1), *[deed(0)] * 3), (*[task(2)] * 3, deed(0)), (*[task(1)] * 3, deed(0), deed(0)))
LESS_301 = guess((task(1), *[deed(0)] * 3), (task(2), task(2), task(1)), (task(1),) * 5)
