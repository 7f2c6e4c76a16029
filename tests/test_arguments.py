"""Points [12], [14] to [17] and [22] to [50]: wrong arguments, alone and two at once, and their order."""

import unittest
from itertools import combinations, product

from methodworlds.books import Book, is_tails, without
from methodworlds.checking import table_holds, unrolled, way_holds
from methodworlds.comparing import apart, same, within
from methodworlds.console import Console
from methodworlds.counting import ways
from methodworlds.doing import courses, ends, is_entry, plan
from methodworlds.errors import BadValue
from methodworlds.machines import accepts, normal
from methodworlds.reducing import fewest, fewest_holds, needless
from methodworlds.sticking import stuck, stuck_holds
from methodworlds.texts import parse, printed
from methodworlds.worlds import World, facts_world, world_of

BIG = 10 ** 300
BOOK = Book(1, 2, (((((0, True),), (("task", 1),)),), (((), (("deed", 1),)),), ()))
WORLD = World(1, ((True,), (False,), (True,), (True,)), ((1, 2), (None, None), (0, 3), (3, 3)))

BAD_BOOKS = (None, 0, True, "book", (), [], (1, 2, ()), WORLD)
BAD_WORLDS = (
    *(None, 0, True, "world", (), [], (1, (), ()), BOOK),
    # Worlds that do not fit the book: more and fewer facts, more and fewer deeds, and both.
    World(2, ((True, True),), ((0, 0),)),
    World(0, ((),), ((0, 0),)),
    World(1, ((True,),), ((0, 0, 0),)),
    World(1, ((True,),), ((0,),)),
    World(2, ((True, True),), ((0,),)),
)
NO_INTEGERS = (True, False, None, "0", "", (), (0,), [0])
BAD_TASKS = (*NO_INTEGERS, 3, -1, BIG, -BIG)
BAD_STATES = (*NO_INTEGERS, 4, -1, BIG, -BIG)
BAD_WANTED = (
    *(None, 0, 1, True, False, "", "0", "01", BIG),
    *((4,), (-1,), (True,), (False,), (None,), ("0",), ((),), ((0,),), (BIG,), [-BIG]),
    *((0, 0), (1, 0), (0, 2, 1), (0, 1, 1), (0, 4), (-1, 0), (0, True), [0, None], [3, 2]),
)
BAD_MOST = (*NO_INTEGERS, -1, 6, BIG, -BIG)

DEEP = 0
for _ in range(39):
    DEEP = [DEEP]
# Values that are no proof, no table, nothing that leads to where one is stuck, and no string.
ANY = (
    *(None, True, False, 0, 1, -1, BIG, -BIG, "", "()", "x" * 60000, DEEP, (DEEP,), (DEEP, DEEP), (0, 0, DEEP)),
    *([0] * 20000, [()] * 19000, [[0, 0, 0]] * 5000, [[0, 0, 0, 0, []]] * 3000, (0,), ((), 0), (0, ()), ((), (), ())),
    *(((),), [[]], (None, None), ((None,), ()), ((), (None,)), (("",), ()), ((0,), (0,)), (((),), ()), (((),), ((),))),
    *((((True, 0, 0),),), (((0, True, ()),),), ((0, 0, 0, 0, 0),), (((0, 0, 0, 0, ()),),)),
)
BAD_DEEDS = (*NO_INTEGERS, -1, 13, BIG, -BIG)
# Sequences that are no proofs of at least one part that are all right, and other values.
PART = (1, 0, 2, 0, ())
BAD_PROOFS = (
    *(None, 0, True, "", "proof", (), [], PART, (None,), ((),), (PART[:4],), ((*PART, ()),)),
    *([PART, None], (PART, (0, 0, 2, 0, ())), (PART, (0, 0, 2, 0, (1,)))),
)
NO_TAILS = Book(1, 2, ((((), (("task", 1),)),), (((), (("task", 0), ("deed", 1))),), ()))

NO_SEQUENCES = (None, True, False, 0, 1, -BIG, "", "a", "0", BOOK, WORLD)
BAD_FACTS = (*NO_INTEGERS, -1, 5, BIG, -BIG)
BAD_DEED_NUMBERS = (*NO_INTEGERS, -1, 0, 6, BIG, -BIG)
BAD_PAIRS = (
    *NO_SEQUENCES,
    *((0, 0), ((0, 1),), ((2, 0),), ((3, 0),), ((-1, 0),), ((0, -1),), ((False, 0),), ((0, False),), ((0,),), (None,)),
    *(((0, 0), (0, 0)), ((1, 0), (0, 0)), [[0, 0], [0, 0]], ((0, 0), (1, 0), (0, 0)), ((0, 0, 0),), ("00",)),
    ((BIG, 0),),
)
BAD_STRINGS = (
    *(None, 0, True, "", (), ((), ()), (((True,),), (0,)), (((1,),), ()), (((True,), (True,)), (2,)), ((True,), ())),
    *((((True,),), (), ()), ((("1",),), ()), (((True,),) * 17, (0,) * 16), (((True,), (True,)), (False,)), BOOK),
)
BAD_RULES = (
    *(*NO_SEQUENCES, (), [], (((), (), ()),) * 6, ((),), (((), ()),), (None,), (((), (0,), (0,)),), (((), (1,), ()),)),
    *((((), (), (1,)),), ((((0, 1),), (), ()),), ((((1, True),), (), ()),), (((), (0, 0), ()),), (((), 0, ()),)),
)
NO_STRINGS = (None, True, False, 0, BIG, (), [], ("",), ["book 0 1\ntask\n"], BOOK, WORLD)

# Books that are no second ones for BOOK: not tails only, and with more and fewer facts and deeds.
BAD_SECONDS = (*BAD_BOOKS, NO_TAILS, *[Book(facts, deeds, ((),)) for facts, deeds in ((0, 2), (2, 2), (1, 1), (1, 3))])


def replayed(log):
    return Console.replayed(log).log()


START = {"book": (BOOK, BAD_BOOKS), "world": (WORLD, BAD_WORLDS)}
SPOT = {**START, "task": (0, BAD_TASKS), "state": (0, BAD_STATES)}
AIM = {**SPOT, "wanted": ((2,), BAD_WANTED)}
MACHINE = {"book": (BOOK, (*BAD_BOOKS, NO_TAILS)), "task": (0, BAD_TASKS)}
PAIR = {
    "first": (BOOK, (*BAD_BOOKS, NO_TAILS)), "task": (0, BAD_TASKS),
    "second": (BOOK, BAD_SECONDS), "other": (1, BAD_TASKS),
}

# For each function its arguments by names, each with one that is right and with wrong ones.
CALLS = (
    (is_entry, {**START, "value": ((0, 0, 0), ())}),
    (ends, SPOT),
    (courses, {**SPOT, "most": (5, BAD_MOST)}),
    (plan, AIM),
    (way_holds, {**AIM, "proof": ((PART, (0, 0, 2, 0, (0,))), ())}),
    (unrolled, {**START, "proof": ((PART,), BAD_PROOFS)}),
    (table_holds, {**AIM, "table": ((), ())}),
    (stuck, SPOT),
    (stuck_holds, {**SPOT, "value": ((), ())}),
    (ways, {**AIM, "deeds": (12, BAD_DEEDS)}),
    (accepts, {"book": (BOOK, BAD_BOOKS), "task": (0, BAD_TASKS), "string": ((((True,),), ()), ())}),
    (normal, MACHINE),
    (same, PAIR),
    (apart, PAIR),
    (within, PAIR),
    (needless, MACHINE),
    (fewest, MACHINE),
    (fewest_holds, {**MACHINE, "kept": ((), ()), "proofs": ((), ())}),
    (Book, {"facts": (0, BAD_FACTS), "deeds": (1, BAD_DEED_NUMBERS), "tasks": (((),), (*NO_SEQUENCES, (), ((),) * 7))}),
    (is_tails, {"book": (BOOK, BAD_BOOKS)}),
    (without, {"book": (BOOK, BAD_BOOKS), "methods": (((0, 0),), BAD_PAIRS)}),
    (World, {
        "facts": (0, BAD_FACTS), "states": (((),), (*NO_SEQUENCES[:-1], (), ((),) * 17)),
        "moves": (((0,),), (*NO_SEQUENCES, (), ((0,),) * 2)),
    }),
    (facts_world, {"facts": (1, BAD_FACTS), "deeds": ((((), (0,), ()),), BAD_RULES)}),
    (world_of, {"book": (BOOK, BAD_BOOKS), "string": ((((True,),), ()), BAD_STRINGS)}),
    (printed, {"value": (BOOK, BAD_BOOKS[:-1])}),
    (parse, {"text": ("book 0 1\ntask\n", NO_STRINGS)}),
    (replayed, {"log": ("show a\n", NO_STRINGS)}),
)


class TestArguments(unittest.TestCase):
    def refuse(self, at, call, arguments):
        with self.assertRaises(BadValue, msg=(call, arguments)) as caught:
            call(*arguments.values())
        self.assertEqual(caught.exception.at, at, (call, arguments))
        with self.assertRaises(BadValue) as caught:
            call(**arguments)
        self.assertEqual(caught.exception.at, at, (call, arguments))

    def each_call(self):
        for call, choices in CALLS:
            yield call, {name: good for name, (good, _) in choices.items()}, list(choices.items())

    def test_right(self):
        for call, good, _ in self.each_call():
            self.assertEqual(call(*good.values()), call(**good))

    def test_one_wrong(self):
        for call, good, choices in self.each_call():
            for at, (name, (_, wrong_ones)) in enumerate(choices, 1):
                for wrong in wrong_ones:
                    self.refuse(at, call, {**good, name: wrong})

    def test_two_wrong(self):
        for call, good, choices in self.each_call():
            for (at, first), (_, second) in combinations(enumerate(choices, 1), 2):
                for wrong, other in product(first[1][1], second[1][1]):
                    self.refuse(at, call, {**good, first[0]: wrong, second[0]: other})

    def test_all_wrong(self):
        self.refuse(1, plan, {"book": None, "world": None, "task": None, "state": None, "wanted": None})
        self.refuse(2, plan, {"book": BOOK, "world": BAD_WORLDS[-1], "task": 9, "state": 9, "wanted": 9})
        nothing = {"book": BOOK, "world": WORLD, "task": None, "state": None, "wanted": None}
        self.refuse(3, way_holds, {**nothing, "proof": None})
        self.refuse(4, table_holds, {**nothing, "task": 0, "table": None})
        self.refuse(5, ways, {**nothing, "task": 0, "state": 0, "deeds": None})

    def test_values_of_any_kind_are_no_errors(self):
        for value in ANY:
            self.assertIs(is_entry(BOOK, WORLD, value), False)
            self.assertIs(way_holds(BOOK, WORLD, 0, 0, (2,), value), False)
            self.assertIs(table_holds(BOOK, WORLD, 0, 0, (), value), False)
            self.assertIs(stuck_holds(BOOK, WORLD, 0, 1, value), False)
            self.assertIs(accepts(BOOK, 0, value), False)
            self.assertIs(fewest_holds(BOOK, 0, value, ()), False)
            self.assertIs(fewest_holds(BOOK, 0, ((0, 0), (1, 0)), value), False)

    def test_tails_are_asked_of_the_whole_book(self):
        for call in (normal, needless, fewest):
            self.refuse(1, call, {"book": NO_TAILS, "task": 2})
        self.assertIs(accepts(NO_TAILS, 0, (((True,),), ())), False)

    def test_task_goes_by_the_book_and_state_by_the_world(self):
        for task, state in product(range(3), range(4)):
            self.assertIsInstance(ends(BOOK, WORLD, task, state), tuple)
        book = Book(0, 1, ((), (), ()))
        world = World(0, ((), ()), ((0,), (0,)))
        self.refuse(4, ends, {"book": book, "world": world, "task": 2, "state": 2})
        self.refuse(3, ends, {"book": book, "world": world, "task": 3, "state": 1})

    def test_wanted_may_be_any_ascending_states(self):
        for wanted in ((), [], (0,), [0, 1, 2, 3], (0, 3), [1, 2]):
            self.assertIn(plan(BOOK, WORLD, 0, 0, wanted)[0], ("way", "table"))

    def test_wanted_is_not_changed(self):
        wanted = [1, 2]
        plan(BOOK, WORLD, 0, 0, wanted)
        self.assertEqual(wanted, [1, 2])


class TestIsEntry(unittest.TestCase):
    def test_triples_of_what_there_is(self):
        for value in product(range(3), range(4), range(4)):
            self.assertIs(is_entry(BOOK, WORLD, value), True)
            self.assertIs(is_entry(book=BOOK, world=WORLD, value=list(value)), True)

    def test_whether_or_not_it_is_so(self):
        self.assertEqual(ends(BOOK, WORLD, 2, 0), ())
        self.assertIs(is_entry(BOOK, WORLD, (2, 0, 0)), True)

    def test_no_triples(self):
        rows = ((), [], (0,), (0, 0), (0, 0, 0, 0), ((0, 0, 0),), ((), (), ()))
        for value in (None, True, False, 0, BIG, "", "000", *rows):
            self.assertIs(is_entry(BOOK, WORLD, value), False, value)

    def test_numbers_of_what_there_is_not(self):
        for at, many in enumerate((3, 4, 4)):
            for wrong in (many, many + 1, -1, BIG, -BIG, True, False, None, "0", "", (), (0,), [0]):
                value = [0, 0, 0]
                value[at] = wrong
                self.assertIs(is_entry(BOOK, WORLD, value), False, value)
                self.assertIs(is_entry(BOOK, WORLD, tuple(value)), False, value)

    def test_large_values(self):
        deep = 0
        for _ in range(39):
            deep = [deep]
        for value in (deep, [0] * 20000, ["x" * 60000], (0, 0, deep), [[0, 0, 0]] * 5000):
            self.assertIs(is_entry(BOOK, WORLD, value), False)
