"""Comparing two tasks of books with tails only, in all worlds at once."""

from methodworlds.arguments import need_alike
from methodworlds.machines import normal
from methodworlds.walking import string_apart


def same(first, task, second, other):
    """Whether both tasks accept the same strings, and so give the same courses in every world."""
    need_alike(first, task, second, other)
    return normal(first, task) == normal(second, other)


def apart(first, task, second, other):
    """A shortest string that one of the tasks accepts and the other one does not; None if there is none."""
    need_alike(first, task, second, other)
    return string_apart(first.facts, normal(first, task), normal(second, other), True)


def within(first, task, second, other):
    """A shortest string that the first task accepts and the second one does not; None if there is none."""
    need_alike(first, task, second, other)
    return string_apart(first.facts, normal(first, task), normal(second, other), False)
