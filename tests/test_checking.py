"""Points [2] to [4] and [26] to [28]: which proofs and tables hold, and what a proof says when it is unrolled."""

import unittest
from random import Random

from methodworlds.books import Book
from methodworlds.checking import table_holds, unrolled, way_holds
from methodworlds.doing import courses, ends, plan
from methodworlds.errors import BadValue, TooMany
from methodworlds.worlds import World
from tests.reference import (
    as_lists, deed, every_pair, every_table, is_closed, is_plain, method, random_cases, slow_ends, slow_proof,
    slow_table_holds, slow_way_holds, some_sets, spoiled, task,
)

# From state to state: 0 -> 1 -> 2 -> 3 by deed 0; deed 1 stays. The fact holds in state 2 alone.
LINE = World(1, ((False,), (False,), (True,), (False,)), ((1, 0), (2, 1), (3, None), (None, None)))
BOOK = Book(1, 2, (
    (method(task(1), task(2)), method(deed(0), task(1), deed(0)), method(task(0), when=((0, True),))),
    (method(deed(0)), method(), method(deed(0), when=((0, True),))),
    (method(deed(1), task(1), deed(1)), method(task(1), task(1))),
))
# A task that does nothing, and tasks that do it again, twice or with a deed.
TWICE = Book(0, 1, ((method(deed(0)), method(), method(task(0), task(0)), method(task(0), deed(0))),))
CIRCLE = World(0, ((), ()), ((1,), (0,)))
ROUND = World(0, ((),), ((0,),))


class TestWayHolds(unittest.TestCase):
    PROOF = ((1, 0, 1, 0, ()), (1, 1, 1, 1, ()), (2, 1, 1, 0, (1,)), (0, 0, 1, 0, (0, 2)))

    def check(self, holds, proof, which=0, state=0, wanted=(1,), book=BOOK, world=LINE):
        self.assertIs(way_holds(book, world, which, state, wanted, proof), holds, proof)
        self.assertIs(way_holds(book, world, which, state, list(wanted), as_lists(proof)), holds, proof)
        self.assertIs(slow_way_holds(book, world, which, state, wanted, proof), holds, proof)

    def with_last(self, *part):
        return (*self.PROOF[:-1], part)

    def test_holds(self):
        self.check(True, self.PROOF)
        self.check(True, self.PROOF, wanted=(0, 1, 2, 3))
        self.check(True, self.PROOF[:3], which=2, state=1)
        self.check(True, self.PROOF[:1], which=1)
        self.assertIs(way_holds(book=BOOK, world=LINE, task=0, state=0, wanted=(1,), proof=self.PROOF), True)

    def test_what_plan_returns(self):
        for wanted in some_sets(range(4)):
            for which, state in every_pair(BOOK, LINE):
                word, value = plan(BOOK, LINE, which, state, wanted)
                self.check(word == "way", value, which, state, wanted)

    def test_lists_and_tuples_mixed(self):
        proof = [[1, 0, 1, 0, ()], (1, 1, 1, 1, []), (2, 1, 1, 0, [1]), [0, 0, 1, 0, (0, 2)]]
        self.check(True, proof)
        self.assertEqual(proof, [[1, 0, 1, 0, ()], (1, 1, 1, 1, []), (2, 1, 1, 0, [1]), [0, 0, 1, 0, (0, 2)]])

    def test_more_parts_than_needed(self):
        further = (1, 2, 3, 2, ())
        self.check(True, (self.PROOF[0], further, self.PROOF[1], (2, 1, 1, 0, (2,)), (0, 0, 1, 0, (0, 3))))
        self.check(True, (*self.PROOF[:3], self.PROOF[2], self.PROOF[0], (0, 0, 1, 0, (4, 3))))
        self.check(True, self.PROOF + self.PROOF)

    def test_no_part(self):
        for none in ((), [], None, 0, ""):
            self.check(False, none)

    def test_last_part_of_something_else(self):
        self.check(False, self.PROOF, which=1)
        self.check(False, self.PROOF, which=2)
        self.check(False, self.PROOF, state=1)
        self.check(False, (*self.PROOF, (1, 0, 1, 0, ())))
        self.check(False, (*self.PROOF, (0, 2, 2, 2, ())))

    def test_last_part_ends_in_no_wanted_state(self):
        for wanted in ((), (0,), (2,), (0, 2, 3)):
            self.check(False, self.PROOF, wanted=wanted)

    def test_a_part_that_the_last_one_does_not_need_is_wrong(self):
        wrong = ((1, 0, 2, 0, ()), (1, 0, 1, 2, ()), (1, 0, 0, 0, ()), (0, 0, 1, 0, ()), (1, 3, 3, 0, ()), (), None, 0)
        for part in wrong:
            self.check(False, (*self.PROOF[:1], part, (1, 1, 1, 1, ()), (2, 1, 1, 0, (2,)), (0, 0, 1, 0, (0, 3))))
            self.check(False, (part, self.PROOF[0]), which=1)

    def test_parts_left_out_or_exchanged(self):
        for at in range(4):
            self.check(False, self.PROOF[:at] + self.PROOF[at + 1:])
        self.check(False, self.PROOF[::-1])
        self.check(False, (self.PROOF[1], self.PROOF[0], *self.PROOF[2:]))
        self.check(False, (self.PROOF[0], self.PROOF[2], self.PROOF[1], self.PROOF[3]))

    def test_other_numbers(self):
        for end in (0, 2, 3, 4, -1):
            self.check(False, self.with_last(0, 0, end, 0, (0, 2)), wanted=(0, 1, 2, 3))
        for number in (1, 2, 3, -1, -3):
            self.check(False, self.with_last(0, 0, 1, number, (0, 2)))
        for which in (1, 2, 3, -3):
            self.check(False, self.with_last(which, 0, 1, 0, (0, 2)))
        for state in (1, 2, 3, 4, -4):
            self.check(False, self.with_last(0, state, 1, 0, (0, 2)))

    def test_places(self):
        wrong = ((), (0,), (2,), (0, 2, 2), (0, 1, 2), (2, 0), (0, 3), (3, 2), (0, 4), (-4, 2), (0, -2), (-4, -2))
        for places in (*wrong, (1, 2), (0, 1), (0, 0), (2, 2), 0, None, "02", ((0,), (2,)), (0, None), (0, "2")):
            self.check(False, self.with_last(0, 0, 1, 0, places))
        # The part itself, and a later one.
        book = Book(0, 1, ((method(task(0)), method()),))
        for place, holds in ((0, True), (1, False), (2, False), (-1, False)):
            self.check(holds, ((0, 0, 0, 1, ()), (0, 0, 0, 0, (place,)), (0, 0, 0, 1, ())), 0, 0, (0,), book, ROUND)
        self.check(False, ((0, 0, 0, 0, (0,)),), 0, 0, (0,), book, ROUND)

    def test_named_part_of_another_task_or_state(self):
        book = Book(0, 1, ((method(task(1), deed(0)),), (method(deed(0)), method()), (method(deed(0)), method())))
        parts = ((1, 0, 1, 0, ()), (2, 0, 1, 0, ()), (1, 1, 0, 0, ()), (2, 1, 0, 0, ()), (1, 0, 0, 1, ()))
        for place, end in ((0, 0), (4, 1)):
            self.check(True, (*parts, (0, 0, end, 0, (place,))), 0, 0, (0, 1), book, CIRCLE)
        for place in (1, 2, 3):
            for end in (0, 1):
                self.check(False, (*parts, (0, 0, end, 0, (place,))), 0, 0, (0, 1), book, CIRCLE)

    def test_method_that_may_not_be_taken(self):
        self.check(True, ((1, 2, 3, 2, ()),), 1, 2, (3,))
        self.check(True, ((1, 2, 3, 0, ()),), 1, 2, (3,))
        self.check(False, ((1, 1, 2, 2, ()),), 1, 1, (2,))

    def test_deed_that_cannot_be_done(self):
        for end in range(4):
            self.check(False, ((1, 3, end, 0, ()),), 1, 3, (0, 1, 2, 3))
            self.check(False, ((1, 2, 2, 1, ()), (2, 2, end, 0, (0,))), 2, 2, (0, 1, 2, 3))

    def test_true_is_no_number(self):
        part = (0, 0, 0, 0, ())
        book = Book(0, 1, ((method(), method(), method(task(0), task(0))),) * 2)
        world = World(0, ((), ()), ((0,), (1,)))
        for which in (0, 1):
            self.check(True, (part, (1, 1, 1, 1, ())), 1, 1, (1,), book, world)
            for at in range(4):
                self.check(False, ((0, 0, 0, 0, ()), (1, 1, 1, 1, ())[:at] + (True,) + (1, 1, 1, 1, ())[at + 1:]),
                           1, 1, (1,), book, world)
                self.check(False, (part[:at] + (False,) + part[at + 1:],), 0, 0, (0,), book, world)
        self.check(True, (part, part, (0, 0, 0, 2, (1, 0))), 0, 0, (0,), book, world)
        for places in ((True, 0), (1, False), (True, False)):
            self.check(False, (part, part, (0, 0, 0, 2, places)), 0, 0, (0,), book, world)

    def test_other_values(self):
        for wrong in (None, True, "1", "", (), (1,), [0], 10 ** 300, -10 ** 300):
            for at in range(5):
                part = list(self.PROOF[-1])
                part[at] = wrong
                self.check(False, (*self.PROOF[:-1], tuple(part)))
            self.check(False, (*self.PROOF[:-1], wrong))
            self.check(False, wrong)
            self.check(False, (*self.PROOF, wrong))
        self.check(False, (*self.PROOF[:-1], (*self.PROOF[-1], ())))
        self.check(False, (*self.PROOF[:-1], self.PROOF[-1][:4]))
        self.check(False, self.PROOF[-1])

    def test_many_parts(self):
        proof = [(0, 0, 1, 0, ()), (0, 1, 1, 1, ())]
        for _ in range(2000):
            proof.append((0, 0, 1, 2, (len(proof) - (1 if len(proof) > 2 else 2), 1)))
        self.check(True, tuple(proof), 0, 0, (1,), TWICE, CIRCLE)
        self.check(False, tuple(proof[:1000] + proof[1001:]), 0, 0, (1,), TWICE, CIRCLE)

    def test_random(self):
        random = Random(21)
        right = wrong = 0
        for book, world in random_cases(150, 22):
            known = slow_ends(book, world)
            for which, state in every_pair(book, world):
                for wanted in some_sets(range(len(world)))[1:6]:
                    word, value = plan(book, world, which, state, wanted)
                    self.assertIs(way_holds(book, world, which, state, wanted, value), word == "way")
                    for _ in range(6):
                        other = spoiled(random, value)
                        holds = way_holds(book, world, which, state, wanted, other)
                        self.assertIs(holds, slow_way_holds(book, world, which, state, wanted, other), other)
                        right, wrong = right + holds, wrong + (not holds)
                        if holds:
                            self.assertTrue(known[which, state] & set(wanted))
        self.assertGreater(right, 300)
        self.assertGreater(wrong, 3000)


class TestUnrolled(unittest.TestCase):
    def refuse(self, proof, book=BOOK, world=LINE):
        with self.assertRaises(BadValue, msg=proof) as caught:
            unrolled(book, world, proof)
        self.assertEqual(caught.exception.at, 3)

    def too_many(self, proof, book=TWICE, world=ROUND):
        with self.assertRaises(TooMany) as caught:
            unrolled(book, world, proof)
        self.assertEqual(caught.exception.word, "deeds")

    def test_course(self):
        proof = TestWayHolds.PROOF
        for at, told in enumerate(((0,), (), None, None)):
            if told is not None:
                self.assertEqual(unrolled(BOOK, LINE, proof[:at + 1]), told)
        self.assertEqual(unrolled(BOOK, LINE, proof), (0, 1, 1))
        self.assertEqual(unrolled(book=BOOK, world=LINE, proof=as_lists(proof)), (0, 1, 1))
        self.assertTrue(is_plain(unrolled(BOOK, LINE, as_lists(proof))))

    def test_order(self):
        """Deeds ahead of a task, of the task, and behind it; the parts in the order of places."""
        first = method(deed(0), task(1), deed(2), task(2), deed(4))
        book = Book(0, 5, ((first,), (method(deed(1)),), (method(deed(3)),)))
        world = World(0, ((),), ((0,) * 5,))
        proof = ((2, 0, 0, 0, ()), (1, 0, 0, 0, ()), (0, 0, 0, 0, (1, 0)))
        self.assertEqual(unrolled(book, world, proof), (0, 1, 2, 3, 4))

    def test_no_deeds(self):
        self.assertEqual(unrolled(BOOK, LINE, ((1, 3, 3, 1, ()),)), ())
        self.assertEqual(unrolled(TWICE, ROUND, ((0, 0, 0, 1, ()), (0, 0, 0, 2, (0, 0)))), ())

    def test_refused(self):
        part = (1, 0, 1, 0, ())
        wrong = (None, 0, True, "", "proof", (), [], part, (None,), ((),))
        for proof in (*wrong, (part, None), (part[:4],), (part, part + (0,))):
            self.refuse(proof)
        for at, wrong in enumerate(((2, 0), (1, 2), (0, 3), (1, 2), (None, (0,)))):
            for each in wrong:
                self.refuse((part[:at] + (each,) + part[at + 1:],))
                self.refuse((part[:at] + (each,) + part[at + 1:], part))
                self.refuse((part, part[:at] + (each,) + part[at + 1:]))
        self.refuse(((1, False, 1, 0, ()),))
        self.refuse(((True, 0, 1, 0, ()),))

    def count_to(self, many):
        """A proof of parts of TWICE, the last one of so many deeds: half of them twice, and a deed more if needed."""
        if many < 2:
            return ((0, 0, 0, 1 - many, ()),)
        proof = self.count_to(many // 2)
        last = len(proof) - 1
        if many % 2 == 0:
            return (*proof, (0, 0, 0, 2, (last, last)))
        return (*proof, (0, 0, 0, 2, (last, last)), (0, 0, 0, 3, (last + 1,)))

    def test_bound(self):
        for many in (0, 1, 2, 3, 998, 999, 1000):
            self.assertEqual(unrolled(TWICE, ROUND, self.count_to(many)), (0,) * many)
        for many in (1001, 1002, 1003, 1024, 2000, 2001, 10 ** 6, 2 ** 200, 2 ** 200 - 1):
            self.too_many(self.count_to(many))

    def test_bound_behind_deeds(self):
        """The last deed is one of the part's own, ahead of or behind what is too long or not."""
        more = (method(deed(1), task(0)), method(task(0), deed(1)))
        book = Book(0, 2, ((method(deed(0)), method(task(0), task(0)), *more),))
        world = World(0, ((),), ((0, 0),))
        proof = ((0, 0, 0, 0, ()),)
        for bit in "1" * 4 + "0" * 5:
            proof += ((0, 0, 0, 1, (len(proof) - 1, len(proof) - 1)),)
            if bit == "1" and len(proof) < 6:
                proof += ((0, 0, 0, 2, (len(proof) - 1,)),)
        many = len(unrolled(book, world, proof))
        while many < 1000:
            proof += ((0, 0, 0, 2 + many % 2, (len(proof) - 1,)),)
            many += 1
            self.assertEqual(len(unrolled(book, world, proof)), many)
        self.too_many((*proof, (0, 0, 0, 2, (len(proof) - 1,))), book, world)
        self.too_many((*proof, (0, 0, 0, 3, (len(proof) - 1,))), book, world)

    def test_more_deeds_than_could_be_written_out(self):
        proof = [(0, 0, 0, 0, ())]
        for at in range(2500):
            proof.append((0, 0, 0, 2, (at, at)))
        self.too_many(tuple(proof))
        self.assertIs(way_holds(TWICE, ROUND, 0, 0, (0,), proof), True)
        # A long part that the last one does not need is no hindrance.
        self.assertEqual(unrolled(TWICE, ROUND, (*proof, (0, 0, 0, 3, (1,)))), (0, 0, 0))

    def test_no_deeds_in_more_parts_than_could_be_written_out(self):
        proof = [(0, 0, 0, 1, ())]
        for at in range(2500):
            proof.append((0, 0, 0, 2, (at, at)))
        self.assertEqual(unrolled(TWICE, ROUND, proof), ())
        self.assertEqual(unrolled(TWICE, ROUND, (*proof, (0, 0, 0, 3, (2500,)))), (0,))

    def test_of_plan(self):
        told = 0
        for book, world in random_cases(150, 23):
            for which, state in every_pair(book, world):
                for end in ends(book, world, which, state):
                    word, proof = plan(book, world, which, state, (end,))
                    course = unrolled(book, world, proof)
                    self.assertEqual(self.led(world, state, course), end)
                    if len(course) <= 5:
                        self.assertIn(course, courses(book, world, which, state, 5))
                        told += 1
        self.assertGreater(told, 500)

    def led(self, world, state, course):
        for number in course:
            state = world.moves[state][number]
        return state

    def test_random(self):
        random = Random(24)
        right = 0
        for book, world in random_cases(100, 25):
            known = every_pair(book, world)
            which, state = known[random.randrange(len(known))]
            for end in ends(book, world, which, state):
                proof = plan(book, world, which, state, (end,))[1]
                for _ in range(30):
                    other = spoiled(random, proof)
                    if slow_proof(book, world, other) and other:
                        self.assertTrue(is_plain(unrolled(book, world, other)))
                        right += 1
                    else:
                        self.refuse(other, book, world)
        self.assertGreater(right, 100)


class TestTableHolds(unittest.TestCase):
    # Task 1 from each state that is come to, and task 0, which is it twice.
    BOOK = Book(1, 2, ((method(task(1), task(1)),), (method(deed(0)), method(when=((0, True),)))))
    TABLE = ((0, 0, (2,)), (0, 2, (2, 3)), (1, 0, (1,)), (1, 1, (2,)), (1, 2, (2, 3)), (1, 3, ()))

    def check(self, holds, table, which=0, state=0, wanted=(0, 1), book=BOOK, world=LINE):
        self.assertIs(table_holds(book, world, which, state, wanted, table), holds, table)
        self.assertIs(table_holds(book, world, which, state, list(wanted), as_lists(table)), holds, table)
        self.assertIs(slow_table_holds(book, world, which, state, wanted, table), holds, table)

    def changed(self, at, triple):
        return (*self.TABLE[:at], triple, *self.TABLE[at + 1:])

    def test_holds(self):
        self.check(True, self.TABLE)
        self.check(True, self.TABLE, wanted=())
        self.check(True, self.TABLE, wanted=(0, 1, 3))
        self.check(True, self.TABLE, 0, 2)
        self.check(True, self.TABLE, 1, 3, (0, 1, 2, 3))
        self.check(True, [[0, 0, (2,)], (0, 2, [2, 3]), *self.TABLE[2:]])
        self.assertIs(table_holds(book=self.BOOK, world=LINE, task=0, state=0, wanted=(0,), table=self.TABLE), True)

    def test_what_plan_returns(self):
        for wanted in some_sets(range(4)):
            for which, state in every_pair(BOOK, LINE):
                word, value = plan(BOOK, LINE, which, state, wanted)
                self.check(word == "table", value, which, state, wanted, BOOK)

    def test_wanted_state_among_the_ends(self):
        for wanted in ((2,), (0, 2), (2, 3), (0, 1, 2, 3)):
            self.check(False, self.TABLE, wanted=wanted)
        # Among the ends of another triple it does not matter.
        self.check(True, self.TABLE, wanted=(1, 3))
        self.check(True, self.TABLE, 1, 0, (2, 3))

    def test_no_triple_of_the_task_and_the_state(self):
        self.check(False, self.TABLE[2:])
        self.check(True, self.TABLE[2:], 1, 0, (2,))
        self.check(False, self.TABLE, 0, 1)
        self.check(False, (), 0, 0)
        self.check(False, (), 0, 0, ())

    def test_more_ends_than_needed(self):
        self.check(True, self.changed(0, (0, 0, (2, 3))))
        self.check(False, self.changed(0, (0, 0, (1, 2))))
        self.check(True, self.changed(0, (0, 0, (1, 2))), wanted=(0,))
        self.check(True, self.changed(5, (1, 3, (3,))))
        self.check(False, self.changed(5, (1, 3, (0, 3))))
        self.check(True, (self.TABLE[0], (0, 2, (0, 2, 3)), *self.TABLE[2:5], (1, 3, (0, 3))))
        # One more end of a task must be followed in the methods of the other one.
        self.check(False, self.changed(2, (1, 0, (1, 2))))
        self.check(True, ((0, 0, (2, 3)), *self.TABLE[1:2], (1, 0, (1, 2)), *self.TABLE[3:]))
        self.check(False, self.changed(2, (1, 0, (0, 1))))
        self.check(False, self.changed(2, (1, 0, (0, 1))), wanted=())

    def test_fewer_ends_than_needed(self):
        for at, (which, state, told) in enumerate(self.TABLE):
            for fewer in some_sets(told)[:-1]:
                self.check(False, self.changed(at, (which, state, fewer)), wanted=())

    def test_triples_left_out(self):
        for at in range(len(self.TABLE)):
            # Nothing comes to the task twice from state 2, so that triple may be left out.
            self.check(at == 1, self.TABLE[:at] + self.TABLE[at + 1:])

    def test_what_is_come_to_without_an_end_needs_a_triple(self):
        book = Book(1, 2, ((method(deed(0), task(1), task(0)),), ()))
        self.check(True, ((0, 0, ()), (1, 1, ())), 0, 0, (0, 1, 2, 3), book)
        self.check(False, ((0, 0, ()),), 0, 0, (0, 1, 2, 3), book)
        self.check(False, ((0, 0, ()), (1, 0, ()), (1, 2, ())), 0, 0, (0,), book)

    def test_deed_that_cannot_be_done_leads_nowhere(self):
        book = Book(1, 2, ((method(deed(1), task(0)),),))
        self.check(True, ((0, 3, ()),), 0, 3, (0, 1, 2, 3), book)
        self.check(True, ((0, 0, ()),), 0, 0, (0, 1, 2, 3), book)

    def test_methods_that_may_not_be_taken(self):
        book = Book(1, 2, ((method(deed(0), when=((0, True),)), method(task(1), when=((0, True),))), (method(),)))
        self.check(True, ((0, 1, ()),), 0, 1, (0, 1, 2, 3), book)
        self.check(False, ((0, 2, (3,)),), 0, 2, (0, 1), book)
        self.check(True, ((0, 2, (2, 3)), (1, 2, (2,))), 0, 2, (0, 1), book)

    def test_order_of_triples(self):
        self.check(False, self.TABLE[::-1])
        for at in range(len(self.TABLE) - 1):
            exchanged = (*self.TABLE[:at], self.TABLE[at + 1], self.TABLE[at], *self.TABLE[at + 2:])
            self.check(False, exchanged)
        for at, triple in enumerate(self.TABLE):
            self.check(False, (*self.TABLE[:at], triple, *self.TABLE[at:]))
            self.check(False, (*self.TABLE, triple))
        self.check(False, (self.TABLE[0], (0, 0, (2, 3)), *self.TABLE[1:]))

    def test_order_of_ends(self):
        for told in ((3, 2), (2, 2), (2, 3, 3), (2, 4), (-1, 2, 3), (3, 2, 3)):
            self.check(False, self.changed(4, (1, 2, told)))

    def test_numbers_of_what_there_is_not(self):
        for triple in ((2, 0, ()), (-1, 0, ()), (1, 4, ()), (1, -1, ()), (10 ** 300, 0, ()), (1, 10 ** 300, ())):
            self.check(False, tuple(sorted((*self.TABLE, triple))))

    def test_other_values(self):
        for wrong in (None, True, False, "1", "", (1,), [0], ((),), 10 ** 300, -10 ** 300, 0, 7, "0"):
            self.check(False, wrong)
            self.check(False, (*self.TABLE, wrong))
            self.check(False, (wrong, *self.TABLE))
            for at in range(3):
                triple = list(self.TABLE[5])
                triple[at] = wrong
                if triple not in ([1, 3, [0]], [1, 3, (1,)], [0, 3, ()]):
                    self.check(False, self.changed(5, tuple(triple)))
        self.check(False, (*self.TABLE, ()))
        self.check(False, self.TABLE[0])
        self.check(False, self.changed(5, (1, 3)))
        self.check(False, self.changed(5, (1, 3, (), ())))

    def test_true_is_no_number(self):
        book = Book(0, 1, ((), ()))
        self.check(True, ((0, 0, ()), (0, 1, (0, 1)), (1, 0, ()), (1, 1, ())), 1, 1, (0, 1), book, CIRCLE)
        for triple in ((True, 1, ()), (1, True, ()), (1, 1, (False,)), (1, 1, (0, True)), (1, 1, (True,))):
            self.check(False, ((0, 0, ()), triple), 0, 0, (0, 1), book, CIRCLE)
        for triple in ((False, 0, ()), (0, False, ()), (0, 0, (True,))):
            self.check(False, (triple, (1, 1, ())), 1, 1, (0, 1), book, CIRCLE)

    def test_table_is_not_changed(self):
        table = [[0, 0, [2]], [1, 0, [1]]]
        self.assertIs(table_holds(self.BOOK, LINE, 0, 0, (), table), False)
        self.assertEqual(table, [[0, 0, [2]], [1, 0, [1]]])

    def test_random(self):
        random = Random(26)
        right = wrong = 0
        for book, world in random_cases(150, 27):
            known = slow_ends(book, world)
            for which, state in every_pair(book, world):
                wanted = tuple(end for end in range(len(world)) if end not in known[which, state])
                table = plan(book, world, which, state, wanted)[1]
                self.assertIs(table_holds(book, world, which, state, wanted, table), True)
                for _ in range(12):
                    other = spoiled(random, table)
                    some = wanted[random.randrange(3):]
                    holds = table_holds(book, world, which, state, some, other)
                    self.assertIs(holds, slow_table_holds(book, world, which, state, some, other), other)
                    right, wrong = right + holds, wrong + (not holds)
                    if holds:
                        self.assertFalse(known[which, state] & set(some))
        self.assertGreater(right, 500)
        self.assertGreater(wrong, 5000)

    def test_all_tables_of_very_small_worlds(self):
        right = 0
        for book, world in random_cases(40, 28, 2, 2):
            for table in every_table(book, world):
                closed = is_closed(book, world, table)
                told = {(row[0], row[1]): row[2] for row in table}
                for which, state in every_pair(book, world):
                    for wanted in ((), (0,)):
                        holds = closed and (which, state) in told and not set(told[which, state]) & set(wanted)
                        self.assertIs(table_holds(book, world, which, state, wanted, table), holds)
                        right += holds
        self.assertGreater(right, 500)


class TestOneOfTwo(unittest.TestCase):
    def test_plan_returns_the_one_that_there_is(self):
        ways = tables = 0
        for book, world in random_cases(120, 29):
            known = slow_ends(book, world)
            for which, state in every_pair(book, world):
                for wanted in some_sets(range(len(world)))[:8]:
                    word, value = plan(book, world, which, state, wanted)
                    is_way = bool(known[which, state] & set(wanted))
                    self.assertEqual(word, "way" if is_way else "table")
                    self.assertIs(way_holds(book, world, which, state, wanted, value), is_way)
                    self.assertIs(table_holds(book, world, which, state, wanted, value), not is_way)
                    ways, tables = ways + is_way, tables + (not is_way)
        self.assertGreater(ways, 500)
        self.assertGreater(tables, 500)

    def test_no_table_where_there_is_a_way(self):
        for book, world in random_cases(40, 30, 2, 2):
            known = slow_ends(book, world)
            for which, state in every_pair(book, world):
                for wanted in some_sets(range(len(world))):
                    holds = [table for table in every_table(book, world)
                             if table_holds(book, world, which, state, wanted, table)]
                    self.assertEqual(not holds, bool(known[which, state] & set(wanted)))
