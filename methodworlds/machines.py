"""What a task accepts in all worlds: single strings, and the normal machine that accepts them all."""

from methodworlds.arguments import need_tails, need_task
from methodworlds.kinds import plain
from methodworlds.normalizing import normalized
from methodworlds.rows import set_machine
from methodworlds.spelling import is_spelled
from methodworlds.strings import is_string

MOST_ACCEPTED = 40


def accepts(book, task, string):
    """Whether the value is a string for the book, of at most 40 deeds, that the task accepts."""
    need_task(book, task)
    if not is_string(book, string) or len(string[1]) > MOST_ACCEPTED:
        return False
    facts, deeds = plain(string)
    return is_spelled(book, task, facts, deeds)


def normal(book, task):
    """The normal machine of a task of a book that has tails only."""
    need_tails(book, task)
    return normalized(set_machine(book, task))
