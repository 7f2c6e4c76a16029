"""Points [15], [17] and [40] with [34]: worlds, worlds of all facts, and worlds of strings."""

import unittest
from itertools import product
from random import Random
from unittest import mock

from methodworlds.books import Book
from methodworlds.errors import BadState, BadValue
from methodworlds.worlds import World, facts_world, world_of
from tests.reference import as_lists, is_plain, random_condition

BIG = 10 ** 300
NO_INTEGERS = (True, False, None, "1", "", (), (1,), [1])
NO_SEQUENCES = (None, True, False, 0, 1, -BIG, "", "a", "ab")

STATES = ((False, True), (True, True), (False, False))
MOVES = ((1, None), (None, None), (2, 0))


class Refusals(unittest.TestCase):
    def refuse(self, kind, at, call, *arguments):
        with self.assertRaises(kind, msg=arguments) as caught:
            call(*arguments)
        self.assertEqual(caught.exception.at, at, arguments)


class TestWorld(Refusals):
    def refuse_value(self, at, *arguments):
        self.refuse(BadValue, at, World, *arguments)

    def refuse_state(self, at, *arguments):
        self.refuse(BadState, at, World, *arguments)

    def test_ordinary(self):
        for world in (World(2, STATES, MOVES), World(facts=2, moves=MOVES, states=STATES)):
            self.assertEqual(world.facts, 2)
            self.assertEqual(world.states, STATES)
            self.assertEqual(world.moves, MOVES)
            self.assertEqual(world.deeds, 2)
            self.assertEqual(len(world), 3)
            self.assertTrue(is_plain(world.states) and is_plain(world.moves))

    def test_limits_are_allowed(self):
        for facts in range(5):
            self.assertEqual(World(facts, ((True,) * facts,), ((0,),)).facts, facts)
        for many in range(1, 17):
            world = World(0, ((),) * many, ((many - 1,),) * many)
            self.assertEqual((len(world), world.deeds), (many, 1))
        for deeds in range(1, 6):
            self.assertEqual(World(0, ((), ()), ((1,) * deeds, (None,) * deeds)).deeds, deeds)

    def test_no_facts(self):
        world = World(0, [(), []], [[0], (1,)])
        self.assertEqual((world.facts, world.states, world.moves), (0, ((), ()), ((0,), (1,))))
        self.refuse_state(1, 0, ((), (True,)), ((0,), (0,)))

    def test_facts(self):
        for facts in (*NO_INTEGERS, -1, 5, BIG, -BIG):
            self.refuse_value(1, facts, ((),), ((0,),))

    def test_states(self):
        for states in (*NO_SEQUENCES, (), [], ((),) * 17):
            self.refuse_value(2, 0, states, ((0,),))
        for wrong in (*NO_SEQUENCES, (), (True,), (True,) * 3, (True, 1), (0, True), (True, None), ("", True), "10"):
            self.refuse_state(0, 2, (wrong,), ((0,),))
            self.refuse_state(2, 2, [[True, True], (True, False), wrong, wrong], ((0,),) * 4)

    def test_moves(self):
        for moves in (*NO_SEQUENCES, (), ((0,),), ((0,),) * 3):
            self.refuse_value(3, 0, ((), ()), moves)

    def test_first_move(self):
        wrong_rows = (*NO_SEQUENCES, (), (0,) * 6, (2,), (-1,), (True,), (False,), ("0",), ((),), ((0,),), (BIG,))
        for wrong in wrong_rows:
            self.refuse_state(0, 0, ((), ()), (wrong, (0,)))
            self.refuse_state(0, 0, ((), ()), [wrong, wrong])

    def test_later_moves(self):
        wrong_rows = (*NO_SEQUENCES, (), (0,), (0, 0, 0), (0, 3), (-1, 0), (0, True), (False, None), ("0", 0), ("", 0))
        for wrong in wrong_rows:
            self.refuse_state(1, 0, ((), (), ()), ((0, 2), wrong, (0, 0)))
            self.refuse_state(2, 0, ((), (), ()), [[0, 2], [None, None], wrong])

    def test_order(self):
        self.refuse_value(1, 5, (), ())
        self.refuse_value(1, None, None, None)
        self.refuse_value(2, 0, (), ())
        self.refuse_state(0, 1, ((),), ())
        self.refuse_state(1, 0, ((), None), ((9,), (0,)))
        self.refuse_value(3, 0, ((), ()), ((9,),))
        self.refuse_state(0, 0, ((), ()), ((9,), None))

    def test_lists_are_as_tuples(self):
        world = World(2, as_lists(STATES), as_lists(MOVES))
        self.assertEqual(world, World(2, STATES, MOVES))
        self.assertTrue(is_plain(world.states) and is_plain(world.moves))

    def test_later_changes(self):
        states, moves = as_lists(STATES), as_lists(MOVES)
        world = World(2, states, moves)
        self.assertEqual((states, moves), (as_lists(STATES), as_lists(MOVES)))
        states[0][0] = True
        states.append([True, True])
        moves[0][0] = 2
        moves[1].append(0)
        self.assertEqual((world.states, world.moves, len(world), world.deeds), (STATES, MOVES, 3, 2))

    def test_equality(self):
        world = World(2, STATES, MOVES)
        self.assertTrue(world == World(2, STATES, MOVES))
        self.assertFalse(world != World(2, STATES, MOVES))
        others = (
            World(2, STATES[::-1], MOVES),
            World(2, STATES, MOVES[::-1]),
            World(2, STATES[:2], MOVES[:2]),
            World(1, tuple(each[:1] for each in STATES), MOVES),
            World(2, STATES, tuple(each[:1] for each in MOVES)),
            Book(2, 2, ((),)),
        )
        for other in (*others, None, 1, "world", STATES, (2, STATES, MOVES), [], mock.ANY):
            self.assertFalse(world == other)
            self.assertTrue(world != other)


class TestFactsWorld(Refusals):
    def test_states(self):
        for facts in range(5):
            world = facts_world(facts, (((), (), ()),))
            self.assertEqual(len(world), 2 ** facts)
            self.assertEqual(world.facts, facts)
            for number, held in enumerate(world.states):
                self.assertEqual(held, tuple((number // 2 ** fact) % 2 == 1 for fact in range(facts)))
            self.assertEqual(world.moves, tuple((number,) for number in range(2 ** facts)))
            self.assertTrue(is_plain(world.states) and is_plain(world.moves))

    def test_no_facts(self):
        world = facts_world(0, [[[], [], []], ((), (), ())])
        self.assertEqual((world.states, world.moves, world.deeds), (((),), ((0, 0),), 2))

    def test_deeds(self):
        deeds = ((((0, False),), (0,), ()), (((0, True), (1, False)), (1,), (0,)), ((), (), (0, 1)))
        world = facts_world(facts=2, deeds=deeds)
        self.assertEqual(world.moves, ((1, None, 0), (None, 2, 0), (3, None, 0), (None, None, 0)))

    def test_what_holds_stays(self):
        world = facts_world(3, (((), (1,), (0,)), ((), (), (2,)), ((), (0, 2), ())))
        self.assertEqual([row[0] for row in world.moves], [2, 2, 2, 2, 6, 6, 6, 6])
        self.assertEqual([row[1] for row in world.moves], [0, 1, 2, 3, 0, 1, 2, 3])
        self.assertEqual([row[2] for row in world.moves], [5, 5, 7, 7, 5, 5, 7, 7])

    def test_five_deeds(self):
        self.assertEqual(facts_world(4, (((), (3,), ()),) * 5).moves[0], (8,) * 5)

    def test_random(self):
        random = Random(17)
        for _ in range(100):
            facts = random.randint(0, 4)
            deeds = [self.random_deed(random, facts) for _ in range(random.randint(1, 5))]
            world = facts_world(facts, deeds)
            self.assertEqual(world, World(facts, world.states, world.moves))
            for (number, held), (deed, (needs, sets, clears)) in product(enumerate(world.states), enumerate(deeds)):
                to = None
                if all(held[fact] is wanted for fact, wanted in needs):
                    left = {fact for fact in range(facts) if held[fact]} - set(clears) | set(sets)
                    to = sum(2 ** fact for fact in left)
                self.assertEqual(world.moves[number][deed], to)

    def random_deed(self, random, facts):
        changes = [random.choice((None, True, False)) for _ in range(facts)]
        sets = [fact for fact in range(facts) if changes[fact] is True]
        return [random_condition(random, facts), sets, tuple(at for at in range(facts) if changes[at] is False)]

    def test_later_changes(self):
        deeds = [[[[0, False]], [0], []]]
        world = facts_world(1, deeds)
        self.assertEqual(deeds, [[[[0, False]], [0], []]])
        deeds[0][1][0] = 9
        self.assertEqual(world.moves, ((1,), (None,)))

    def test_facts(self):
        for facts in (*NO_INTEGERS, -1, 5, BIG, -BIG):
            self.refuse(BadValue, 1, facts_world, facts, (((), (), ()),))
            self.refuse(BadValue, 1, facts_world, facts, ())

    def test_no_rows(self):
        for wrong in (*NO_SEQUENCES, (), [], (((), (), ()),) * 6, ((), (), ())):
            self.refuse(BadValue, 2, facts_world, 0, wrong)

    def test_no_triples(self):
        parts_wrong = [(wrong, (), ()) for wrong in (*NO_SEQUENCES, (0,), ((0,),), ((0, 1),), ((2, True),))]
        parts_wrong += [(((1, True), (0, True)), (), ()), (((0, True), (0, True)), (), ()), (((0, None),), (), ())]
        for wrong in (*NO_SEQUENCES, "0", (2,), (-1,), (True,), (None,), (1, 0), (0, 0), ((),), ("0",), (BIG,), (0, 2)):
            parts_wrong += [((), wrong, ()), ((), (), wrong)]
        parts_wrong += [((), (0,), (0,)), ((), (0, 1), (1,)), ((), (1,), (0, 1))]
        for wrong in (*NO_SEQUENCES, (), ((), ()), ((), (), (), ()), *parts_wrong):
            self.refuse(BadValue, 2, facts_world, 2, (wrong,))
            self.refuse(BadValue, 2, facts_world, 2, [[[], [], []], wrong])


class TestWorldOf(Refusals):
    def setUp(self):
        self.book = Book(2, 3, ((),))

    def test_ordinary(self):
        facts = ((False, True), (True, True), (False, False))
        world = world_of(self.book, (facts, (2, 0)))
        self.assertEqual(world.facts, 2)
        self.assertEqual(world.states, facts)
        self.assertEqual(world.moves, ((None, None, 1), (2, None, None), (None, None, None)))
        self.assertEqual(world_of(string=as_lists((facts, (2, 0))), book=self.book), world)
        self.assertTrue(is_plain(world.states) and is_plain(world.moves))

    def test_no_deeds(self):
        world = world_of(self.book, (((True, False),), ()))
        self.assertEqual((world.states, world.moves), (((True, False),), ((None, None, None),)))

    def test_no_facts(self):
        world = world_of(Book(0, 1, ((),)), [[[], ()], [0]])
        self.assertEqual((world.states, world.moves), (((), ()), ((1,), (None,))))

    def test_many_deeds(self):
        fifteen = tuple(number % 3 for number in range(15))
        world = world_of(self.book, (((True, True),) * 16, fifteen))
        self.assertEqual(len(world), 16)
        for state in range(15):
            row = tuple(state + 1 if fifteen[state] == deed else None for deed in range(3))
            self.assertEqual(world.moves[state], row)
        self.assertEqual(world.moves[15], (None, None, None))
        self.refuse(BadValue, 2, world_of, self.book, (((True, True),) * 17, (0,) * 16))
        self.refuse(BadValue, 2, world_of, self.book, (((True, True),) * 42, (0,) * 41))

    def test_later_changes(self):
        string = [[[True, False], [False, False]], [1]]
        world = world_of(self.book, string)
        self.assertEqual(string, [[[True, False], [False, False]], [1]])
        string[0][0][0] = False
        string[1][0] = 0
        self.assertEqual((world.states[0], world.moves[0]), ((True, False), (None, 1, None)))

    def test_no_book(self):
        for wrong in (None, 1, "book", (), (2, 3, ((),)), World(0, ((),), ((0,),))):
            self.refuse(BadValue, 1, world_of, wrong, (((True, True),), ()))
            self.refuse(BadValue, 1, world_of, wrong, None)

    def test_no_string(self):
        one, two = ((True, True),), ((True, True), (False, True))
        strings = [(), (one,), (one, (), ()), ((), ()), (one, (0,)), (two, ()), (two, (0, 0)), ((), (0,))]
        strings += [(two, (wrong,)) for wrong in (3, -1, True, False, None, "0", (0,), BIG)]
        strings += [(two, wrong) for wrong in (*NO_SEQUENCES, "0", ((0,),))]
        strings += [(wrong, ()) for wrong in NO_SEQUENCES]
        wrong_facts = (*NO_SEQUENCES, (), (True,), (True,) * 3, (True, 1), (0, True), (None, True), ("", True), "10")
        strings += [((wrong,), ()) for wrong in wrong_facts]
        strings += [((one[0], wrong), (0,)) for wrong in wrong_facts]
        for wrong in (*NO_SEQUENCES, *strings):
            self.refuse(BadValue, 2, world_of, self.book, wrong)
