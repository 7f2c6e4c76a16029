"""Points [12], [16] and [22] to [29]: wrong arguments of the functions with a book and a world, and their order."""

import unittest
from itertools import combinations, product

from methodworlds.books import Book
from methodworlds.doing import courses, ends, is_entry, plan
from methodworlds.errors import BadValue
from methodworlds.worlds import World

BIG = 10 ** 300
BOOK = Book(1, 2, (((((0, True),), (("task", 1),)),), (((), (("deed", 1),)),), ()))
WORLD = World(1, ((True,), (False,), (True,), (True,)), ((1, 2), (None, None), (0, 3), (3, 3)))

BAD_BOOKS = (None, 0, True, "book", (), [], (1, 2, ()), WORLD)
BAD_WORLDS = (
    *(None, 0, True, "world", (), [], (1, (), ()), BOOK),
    # Worlds that do not fit the book: more and fewer facts, more and fewer deeds, and both.
    World(2, ((True, True),), ((0, 0),)),
    World(0, ((),), ((0, 0),)),
    World(1, ((True,),), ((0, 0, 0),)),
    World(1, ((True,),), ((0,),)),
    World(2, ((True, True),), ((0,),)),
)
NO_INTEGERS = (True, False, None, "0", "", (), (0,), [0])
BAD_TASKS = (*NO_INTEGERS, 3, -1, BIG, -BIG)
BAD_STATES = (*NO_INTEGERS, 4, -1, BIG, -BIG)
BAD_WANTED = (
    *(None, 0, 1, True, False, "", "0", "01", BIG),
    *((4,), (-1,), (True,), (False,), (None,), ("0",), ((),), ((0,),), (BIG,), [-BIG]),
    *((0, 0), (1, 0), (0, 2, 1), (0, 1, 1), (0, 4), (-1, 0), (0, True), [0, None], [3, 2]),
)
BAD_MOST = (*NO_INTEGERS, -1, 6, BIG, -BIG)

# For each function its arguments by names, each with one that is right and with wrong ones.
CALLS = (
    (ends, {"task": (0, BAD_TASKS), "state": (0, BAD_STATES)}),
    (courses, {"task": (0, BAD_TASKS), "state": (0, BAD_STATES), "most": (5, BAD_MOST)}),
    (plan, {"task": (0, BAD_TASKS), "state": (0, BAD_STATES), "wanted": ((2,), BAD_WANTED)}),
    (is_entry, {"value": ((0, 0, 0), ())}),
)
START = {"book": (BOOK, BAD_BOOKS), "world": (WORLD, BAD_WORLDS)}


class TestArguments(unittest.TestCase):
    def refuse(self, at, call, arguments):
        with self.assertRaises(BadValue, msg=(call, arguments)) as caught:
            call(*arguments.values())
        self.assertEqual(caught.exception.at, at, (call, arguments))
        with self.assertRaises(BadValue) as caught:
            call(**arguments)
        self.assertEqual(caught.exception.at, at, (call, arguments))

    def each_call(self):
        for call, told in CALLS:
            choices = {**START, **told}
            yield call, {name: good for name, (good, _) in choices.items()}, list(choices.items())

    def test_right(self):
        for call, good, _ in self.each_call():
            self.assertEqual(call(*good.values()), call(**good))

    def test_one_wrong(self):
        for call, good, choices in self.each_call():
            for at, (name, (_, wrong_ones)) in enumerate(choices, 1):
                for wrong in wrong_ones:
                    self.refuse(at, call, {**good, name: wrong})

    def test_two_wrong(self):
        for call, good, choices in self.each_call():
            for (at, first), (_, second) in combinations(enumerate(choices, 1), 2):
                for wrong, other in product(first[1][1], second[1][1]):
                    self.refuse(at, call, {**good, first[0]: wrong, second[0]: other})

    def test_all_wrong(self):
        self.refuse(1, plan, {"book": None, "world": None, "task": None, "state": None, "wanted": None})
        self.refuse(2, plan, {"book": BOOK, "world": BAD_WORLDS[-1], "task": 9, "state": 9, "wanted": 9})

    def test_task_goes_by_the_book_and_state_by_the_world(self):
        for task, state in product(range(3), range(4)):
            self.assertIsInstance(ends(BOOK, WORLD, task, state), tuple)
        book = Book(0, 1, ((), (), ()))
        world = World(0, ((), ()), ((0,), (0,)))
        self.refuse(4, ends, {"book": book, "world": world, "task": 2, "state": 2})
        self.refuse(3, ends, {"book": book, "world": world, "task": 3, "state": 1})

    def test_wanted_may_be_any_ascending_states(self):
        for wanted in ((), [], (0,), [0, 1, 2, 3], (0, 3), [1, 2]):
            self.assertIn(plan(BOOK, WORLD, 0, 0, wanted)[0], ("way", "table"))

    def test_wanted_is_not_changed(self):
        wanted = [1, 2]
        plan(BOOK, WORLD, 0, 0, wanted)
        self.assertEqual(wanted, [1, 2])


class TestIsEntry(unittest.TestCase):
    def test_triples_of_what_there_is(self):
        for value in product(range(3), range(4), range(4)):
            self.assertIs(is_entry(BOOK, WORLD, value), True)
            self.assertIs(is_entry(book=BOOK, world=WORLD, value=list(value)), True)

    def test_whether_or_not_it_is_so(self):
        self.assertEqual(ends(BOOK, WORLD, 2, 0), ())
        self.assertIs(is_entry(BOOK, WORLD, (2, 0, 0)), True)

    def test_no_triples(self):
        rows = ((), [], (0,), (0, 0), (0, 0, 0, 0), ((0, 0, 0),), ((), (), ()))
        for value in (None, True, False, 0, BIG, "", "000", *rows):
            self.assertIs(is_entry(BOOK, WORLD, value), False, value)

    def test_numbers_of_what_there_is_not(self):
        for at, many in enumerate((3, 4, 4)):
            for wrong in (many, many + 1, -1, BIG, -BIG, True, False, None, "0", "", (), (0,), [0]):
                value = [0, 0, 0]
                value[at] = wrong
                self.assertIs(is_entry(BOOK, WORLD, value), False, value)
                self.assertIs(is_entry(BOOK, WORLD, tuple(value)), False, value)

    def test_large_values(self):
        deep = 0
        for _ in range(39):
            deep = [deep]
        for value in (deep, [0] * 20000, ["x" * 60000], (0, 0, deep), [[0, 0, 0]] * 5000):
            self.assertIs(is_entry(BOOK, WORLD, value), False)
