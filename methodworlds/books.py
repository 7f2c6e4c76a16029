"""Books of methods, books without some of their methods, and which tasks lead to which."""

from methodworlds.conditions import is_condition
from methodworlds.errors import BadMethod, BadValue
from methodworlds.kinds import is_ascending, is_between, is_number, is_row, is_sequence, plain

MOST_FACTS = 4
MOST_DEEDS = 5
MOST_TASKS = 6
MOST_METHODS = 5
MOST_STEPS = 5


def is_step(value, deeds, tasks):
    if not is_row(value, 2, 2):
        return False
    word, number = value
    return word == "deed" and is_number(number, deeds) or word == "task" and is_number(number, tasks)


def is_method(value, facts, deeds, tasks):
    """Whether value is a method of a book with so many facts, deeds and tasks."""
    if not is_row(value, 2, 2) or not is_condition(value[0], facts) or not is_row(value[1], 0, MOST_STEPS):
        return False
    return all([is_step(step, deeds, tasks) for step in value[1]])


def are_tasks(value):
    """Whether value is a sequence of tasks, whatever stands in the place of their methods."""
    return is_row(value, 1, MOST_TASKS) and all([is_row(task, 0, MOST_METHODS) for task in value])


class Book:
    """How tasks break down: for each task its methods, each a pair of a condition and steps."""

    def __init__(self, facts, deeds, tasks):
        if not is_between(facts, 0, MOST_FACTS):
            raise BadValue(1)
        if not is_between(deeds, 1, MOST_DEEDS):
            raise BadValue(2)
        if not are_tasks(tasks):
            raise BadValue(3)
        for task, methods in enumerate(tasks):
            for method, told in enumerate(methods):
                if not is_method(told, facts, deeds, len(tasks)):
                    raise BadMethod(task, method)
        self._facts = facts
        self._deeds = deeds
        self._tasks = plain(tasks)

    @property
    def facts(self):
        """How many facts there are."""
        return self._facts

    @property
    def deeds(self):
        """How many deeds there are."""
        return self._deeds

    @property
    def tasks(self):
        """The tasks, each a tuple of its methods."""
        return self._tasks

    def __eq__(self, other):
        if not isinstance(other, Book):
            return False
        return self.facts == other.facts and self.deeds == other.deeds and self.tasks == other.tasks


def is_method_place(book, value):
    """Whether value is a pair of the numbers of a task and of one of its methods."""
    if not is_row(value, 2, 2) or not is_number(value[0], len(book.tasks)):
        return False
    return is_number(value[1], len(book.tasks[value[0]]))


def are_method_places(book, value):
    """Whether value is an ascending sequence of such pairs."""
    if not is_sequence(value) or not all([is_method_place(book, pair) for pair in value]):
        return False
    return is_ascending(plain(value))


def without(book, methods):
    """The book without the methods that the pairs (task, method) name."""
    if not isinstance(book, Book):
        raise BadValue(1)
    if not are_method_places(book, methods):
        raise BadValue(2)
    gone = plain(methods)
    tasks = []
    for task, told in enumerate(book.tasks):
        tasks.append([each for method, each in enumerate(told) if (task, method) not in gone])
    return Book(book.facts, book.deeds, tasks)


def leads(book):
    """For each task a list that says of each task whether the first one leads to it."""
    many = len(book.tasks)
    rows = [[False] * many for _ in range(many)]
    for task, methods in enumerate(book.tasks):
        for _, steps in methods:
            for word, number in steps:
                if word == "task":
                    rows[task][number] = True
    # One task more may stand on the way from one task to another in each round.
    for by in range(many):
        for task in range(many):
            for to in range(many):
                if rows[task][by] and rows[by][to]:
                    rows[task][to] = True
    return rows


def is_tails(book):
    """Whether a task comes back only by the last steps of methods."""
    if not isinstance(book, Book):
        raise BadValue(1)
    rows = leads(book)
    for task, methods in enumerate(book.tasks):
        for _, steps in methods:
            for word, number in steps[:-1]:
                if word == "task" and (number == task or rows[number][task]):
                    return False
    return True
