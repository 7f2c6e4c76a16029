"""The arguments that many functions share, by the places at which these functions take them."""

from methodworlds.books import Book, is_tails
from methodworlds.errors import BadValue
from methodworlds.kinds import are_ascending_numbers, is_number
from methodworlds.worlds import World


def need_fitting(book, world):
    """Places 1 and 2: a book and a world that fits it."""
    if not isinstance(book, Book):
        raise BadValue(1)
    if not isinstance(world, World):
        raise BadValue(2)
    if world.facts != book.facts or world.deeds != book.deeds:
        raise BadValue(2)


def need_start(book, world, task, state):
    """Places 1 to 4: a book, a world that fits it, a task and a state."""
    need_fitting(book, world)
    if not is_number(task, len(book.tasks)):
        raise BadValue(3)
    if not is_number(state, len(world)):
        raise BadValue(4)


def need_wanted(world, wanted):
    """Place 5: wanted states."""
    if not are_ascending_numbers(wanted, len(world)):
        raise BadValue(5)


def need_task(book, task):
    """Places 1 and 2: a book and a task."""
    if not isinstance(book, Book):
        raise BadValue(1)
    if not is_number(task, len(book.tasks)):
        raise BadValue(2)


def need_tails(book, task):
    """Places 1 and 2: a book with tails only and a task."""
    if not is_tails(book):
        raise BadValue(1)
    need_task(book, task)


def need_alike(first, task, second, other):
    """Places 1 to 4: two books with tails only, with as many facts and deeds, each with a task behind it."""
    need_tails(first, task)
    if not isinstance(second, Book) or not is_tails(second):
        raise BadValue(3)
    if second.facts != first.facts or second.deeds != first.deeds:
        raise BadValue(3)
    if not is_number(other, len(second.tasks)):
        raise BadValue(4)
