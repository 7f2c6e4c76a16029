"""Points [5], [30] and [31]: whether somebody can get stuck, and what leads there."""

import unittest
from random import Random

from methodworlds.books import Book
from methodworlds.sticking import stuck, stuck_holds
from methodworlds.worlds import World
from tests.reference import (
    as_lists, deed, every_pair, is_plain, method, played_stuck, random_cases, slow_stuck, slow_stuck_holds, spoiled,
    task,
)

# From state to state: 0 -> 1 -> 2 -> 3 by deed 0, which cannot be done in 3; deed 1 stays. The fact holds in 2 alone.
LINE = World(1, ((False,), (False,), (True,), (False,)), ((1, 0), (2, 1), (3, 2), (None, 3)))


class TestStuck(unittest.TestCase):
    def stuck(self, book, which=0, state=0, world=LINE):
        value = stuck(book, world, which, state)
        self.assertEqual(value, stuck(book=book, world=world, task=which, state=state))
        self.assertIs(value is not None, slow_stuck(book, world, which, state))
        if value is not None:
            self.assertTrue(is_plain(value))
            self.assertIs(stuck_holds(book, world, which, state, value), True)
            self.assertIs(slow_stuck_holds(book, world, which, state, value), True)
        return value

    def places(self, *arguments, **more):
        """What the places tell but the parts used."""
        return tuple(place[:4] for place in self.stuck(*arguments, **more)[0])

    def test_never(self):
        self.assertIsNone(self.stuck(Book(1, 2, ((method(),),))))
        self.assertIsNone(self.stuck(Book(1, 2, ((method(deed(0), deed(0), deed(0)), method(deed(1), deed(1))),))))
        self.assertIsNone(self.stuck(Book(1, 2, ((method(task(1), task(1)),), (method(deed(1)), method())))))

    def test_never_though_it_may_go_on_for_ever(self):
        self.assertIsNone(self.stuck(Book(1, 2, ((method(task(0)),),))))
        self.assertIsNone(self.stuck(Book(1, 2, ((method(deed(1), task(0)),),))))
        self.assertIsNone(self.stuck(Book(1, 2, ((method(task(0), deed(1), task(0)), method()),))))
        self.assertIsNone(self.stuck(Book(1, 2, ((method(task(1), task(0)),), (method(deed(1)), method(task(0)))))))

    def test_at_once_at_the_task_itself(self):
        closed = (method(when=((0, True),)), method(deed(1), when=((0, True),)))
        for methods in ((), closed[:1], closed):
            book = Book(1, 2, (methods, (method(),)))
            self.assertEqual(self.stuck(book)[0], ())
            self.assertIs(stuck_holds(book, LINE, 0, 0, ((), ())), True)
        self.assertIsNone(self.stuck(Book(1, 2, ((method(when=((0, True),)),),)), 0, 2))

    def test_at_once_at_a_deed(self):
        self.assertEqual(self.stuck(Book(1, 2, ((method(deed(0)),),)), 0, 3), (((0, 3, 0, 0, ()),), ()))
        self.assertIsNone(self.stuck(Book(1, 2, ((method(deed(0)),),)), 0, 2))

    def test_behind_deeds(self):
        self.assertEqual(self.stuck(Book(1, 2, ((method(*[deed(0)] * 4),),))), (((0, 0, 0, 3, ()),), ()))
        self.assertIsNone(self.stuck(Book(1, 2, ((method(*[deed(0)] * 3, deed(1)),),))))
        # Nobody comes to what stands behind a deed that cannot be done.
        book = Book(1, 2, ((method(deed(0), deed(1), task(1)),), ()))
        self.assertEqual(self.places(book, 0, 3), ((0, 3, 0, 0),))

    def test_one_method_is_enough(self):
        book = Book(1, 2, ((method(), method(deed(1)), method(deed(0), deed(0), deed(0), deed(0)), method()),))
        self.assertEqual(self.places(book), ((0, 0, 2, 3),))

    def test_method_that_may_not_be_taken_leads_nowhere(self):
        book = Book(1, 2, ((method(), method(task(1), when=((0, True),))), ()))
        self.assertIsNone(self.stuck(book))
        self.assertEqual(self.places(book, 0, 2), ((0, 2, 1, 0),))

    def test_deep_within(self):
        tasks = [(method(), method(deed(1), task(number + 1))) for number in range(5)]
        book = Book(1, 2, (*tasks, (method(when=((0, True),)),)))
        self.assertEqual(self.places(book), tuple((number, 0, 1, 1) for number in range(5)))
        self.assertIsNone(self.stuck(book, 0, 2))

    def test_behind_a_task_with_several_ends(self):
        # Stuck only where the task ahead ends in state 3, with three deeds.
        book = Book(1, 2, ((method(task(1), deed(0)),), (method(), method(deed(0), task(1)))))
        places, proof = self.stuck(book, 0, 1)
        # Breaking down the task ahead may get stuck itself, in state 3.
        self.assertIn(places[-1][:2], ((0, 1), (1, 3)))
        safe = (method(), method(deed(0), task(1), when=((0, False),)))
        self.assertIsNone(self.stuck(Book(1, 2, ((method(task(1), deed(0)),), safe)), 0, 1))
        three = (method(), method(deed(0)), method(deed(0), deed(0)), method(deed(0), deed(0), deed(0)))
        book = Book(1, 2, ((method(task(1), deed(0)),), three))
        places, proof = self.stuck(book)
        self.assertEqual(places, ((0, 0, 0, 1, (0,)),))
        self.assertEqual(proof, ((1, 0, 3, 3, ()),))

    def test_at_a_task_behind_a_task(self):
        only = (method(when=((0, True),)), method(deed(0), when=((0, True),)))
        book = Book(1, 2, ((method(task(1), task(2)),), (method(deed(0), deed(0)), method(deed(0))), only))
        self.assertEqual(self.stuck(book), (((0, 0, 0, 1, (0,)),), ((1, 0, 1, 1, ()),)))
        self.assertIsNone(self.stuck(Book(1, 2, ((method(task(1), task(2)),), (method(deed(0), deed(0)),), only))))

    def test_what_stands_behind_a_task_that_never_ends(self):
        book = Book(1, 2, ((method(task(1), task(2)),), (method(task(1)),), ()))
        self.assertIsNone(self.stuck(book))
        book = Book(1, 2, ((method(task(1), deed(0), task(2)),), (method(deed(1), task(1)),), ()))
        self.assertIsNone(self.stuck(book, 0, 3))
        # Or that is stuck itself.
        book = Book(1, 2, ((method(task(1), task(2)),), (method(deed(1), task(2)),), ()))
        self.assertEqual(self.places(book), ((0, 0, 0, 0), (1, 0, 0, 1)))

    def test_several_parts_and_places(self):
        tasks = ((method(task(1), task(2), task(3)),), (method(deed(0)), method()), (method(task(1), task(1)),))
        book = Book(1, 2, (*tasks, (method(task(1), task(2), task(4)),), (method(deed(0), when=((0, False),)),)))
        places, proof = self.stuck(book)
        self.assertEqual([place[0] for place in places], [0, 3])
        self.assertEqual([place[3] for place in places], [2, 2])

    def test_back_in_its_own_methods(self):
        book = Book(1, 2, ((method(deed(0), task(0)), method()),))
        self.assertEqual(self.places(book), ((0, 0, 0, 1), (0, 1, 0, 1), (0, 2, 0, 1), (0, 3, 0, 0)))
        book = Book(1, 2, ((method(task(0), deed(0)), method()),))
        self.assertEqual(self.places(book, 0, 0)[-1][3], 1)

    def test_random(self):
        found = []
        for book, world in [*random_cases(150, 31), *random_cases(250, 36, share=0.8)]:
            for which, state in every_pair(book, world):
                value = self.stuck(book, which, state, world)
                found.append(value)
                if value is None:
                    self.assertIs(played_stuck(book, world, which, state, 60), False)
        self.assertGreater(found.count(None), 200)
        self.assertGreater(len([value for value in found if value and len(value[0]) > 1]), 150)
        self.assertGreater(len([value for value in found if value and value[1]]), 50)

    def test_random_plays(self):
        """Where a play gets stuck, it is told; and mostly the other way round."""
        told = played = 0
        for book, world in random_cases(120, 32, 3, 3):
            for which, state in every_pair(book, world):
                gets = played_stuck(book, world, which, state, 150)
                told += stuck(book, world, which, state) is not None
                played += gets
                if gets:
                    self.assertIsNotNone(stuck(book, world, which, state))
        self.assertGreater(played, told * 9 // 10)

    def test_nothing_that_is_passed_is_changed(self):
        for book, world in random_cases(20, 33):
            before = (book.tasks, world.states, world.moves)
            self.assertEqual(stuck(book, world, 0, 0), stuck(book, world, 0, 0))
            self.assertEqual((book.tasks, world.states, world.moves), before)


class TestStuckHolds(unittest.TestCase):
    BOOK = Book(1, 2, (
        (method(task(1), task(2), task(3)), method(deed(0), deed(0)), method(task(1), when=((0, True),))),
        (method(deed(0)), method(), method(when=((0, True),))),
        (method(deed(1), task(1)),),
        (method(deed(1), task(1), deed(0), task(4)), method(deed(1), task(1), task(1), deed(0), deed(0))),
        (method(when=((0, True),)),),
    ))
    # Task 1 from 0 ends in 0 or 1, task 2 from 1 in 1 or 2; task 4 cannot be done in 3, nor deed 0.
    PROOF = ((1, 0, 1, 0, ()), (1, 1, 2, 0, ()), (2, 1, 2, 0, (1,)), (1, 2, 2, 1, ()))
    PLACES = ((0, 0, 0, 2, (0, 2)), (3, 2, 0, 3, (3,)))
    AT_A_DEED = ((0, 0, 0, 2, (0, 2)), (3, 2, 1, 4, (3, 3)))

    def check(self, holds, places, proof=PROOF, which=0, state=0, book=BOOK, world=LINE):
        for value in ((places, proof), [as_lists(places), as_lists(proof)]):
            self.assertIs(stuck_holds(book, world, which, state, value), holds, value)
        self.assertIs(slow_stuck_holds(book, world, which, state, (places, proof)), holds, (places, proof))

    def last(self, *place):
        return (self.PLACES[0], place)

    def test_holds(self):
        self.check(True, self.PLACES)
        self.check(True, self.AT_A_DEED)
        self.check(True, self.PLACES[1:], which=3, state=2)
        value = [[list(self.PLACES[0]), self.PLACES[1]], list(self.PROOF)]
        self.assertIs(stuck_holds(book=self.BOOK, world=LINE, task=0, state=0, value=value), True)
        self.assertEqual(value, [[list(self.PLACES[0]), self.PLACES[1]], list(self.PROOF)])

    def test_more_parts_than_used(self):
        self.check(True, self.PLACES, (*self.PROOF, (1, 3, 3, 1, ()), self.PROOF[2]))
        self.check(True, ((0, 0, 0, 2, (0, 5)), self.PLACES[1]), (*self.PROOF, (1, 3, 3, 1, ()), self.PROOF[2]))

    def test_a_part_that_is_not_right(self):
        wrong = ((1, 0, 2, 0, ()), (1, 1, 1, 2, ()), (0, 0, 0, 0, ()), (1, 3, 3, 0, ()), (2, 1, 2, 0, (4,)))
        for part in (*wrong, (), None, 0):
            self.check(False, self.PLACES, (*self.PROOF, part))
        self.check(False, self.PLACES, (*self.PROOF[:2], (2, 1, 2, 0, (3,)), self.PROOF[3]))
        for wrong in (None, 0, "", True, (None,), ((),), self.PROOF[0]):
            self.check(False, self.PLACES, wrong)
        self.check(False, self.PLACES, ())
        self.check(False, self.PLACES, self.PROOF[:3])

    def test_places_left_out_or_more(self):
        self.check(False, ())
        self.check(False, self.PLACES[:1])
        self.check(False, self.PLACES[1:])
        self.check(False, self.PLACES[::-1])
        self.check(False, self.PLACES + self.PLACES)
        self.check(False, (self.PLACES[0], *self.PLACES))
        self.check(False, (*self.PLACES, self.PLACES[1]))
        self.check(False, (*self.PLACES, (4, 3, 0, 0, ())))
        # Behind the deed that cannot be done nothing more is come to.
        self.check(False, (*self.AT_A_DEED, self.AT_A_DEED[1]))

    def test_first_place_of_something_else(self):
        self.check(False, self.PLACES, which=1)
        self.check(False, self.PLACES, state=1)
        self.check(False, self.PLACES[1:], which=3, state=1)
        self.check(False, self.PLACES[1:], which=2, state=2)

    def test_next_place_of_another_task_or_state(self):
        self.check(False, self.last(3, 1, 0, 3, (3,)))
        self.check(False, self.last(3, 3, 0, 2, (3,)))
        self.check(False, self.last(0, 2, 0, 2, (3, 3)))
        # Task 3 from state 1 would get stuck only there.
        proof = (*self.PROOF, (1, 1, 1, 1, ()), (2, 1, 1, 0, (4,)))
        self.check(True, ((0, 0, 0, 2, (0, 2)), self.PLACES[1]), proof)
        self.check(False, ((0, 0, 0, 2, (0, 5)), self.PLACES[1]), proof)

    def test_step(self):
        for step in (0, 1, 2, 4, -1, -2, 10 ** 300):
            for used in ((3,), (), (3, 3)):
                self.check(False, self.last(3, 2, 0, step, used))
        # A deed that can be done, a task that can be broken down.
        self.check(False, self.last(3, 2, 0, 0, ()))
        self.check(False, self.last(3, 2, 0, 1, ()))
        self.check(False, ((0, 0, 0, 0, ()),))
        self.check(False, ((0, 0, 0, 1, (0,)),))
        self.check(False, ((0, 0, 1, 2, ()),))

    def test_method(self):
        for number in (1, 2, -1, -2, 10 ** 300):
            self.check(False, self.last(3, 2, number, 3, (3,)))
        # One that may not be taken, though with it one would come there.
        book = Book(1, 2, ((method(task(1)), method(task(1), when=((0, True),))), (method(when=((0, True),)),)))
        self.check(True, ((0, 0, 0, 0, ()),), (), book=book)
        self.check(False, ((0, 0, 1, 0, ()),), (), book=book)

    def test_used(self):
        wrong = ((), (0,), (3, 3), (0,), (1,), (2,), (4,), (-1,), 3, None, "3", ((3,),), (None,), (True,))
        for used in wrong:
            self.check(False, self.last(3, 2, 0, 3, used))
        for used in ((), (0,), (2,), (2, 0), (0, 2, 3), (0, 1), (0, 3), (1, 2), (3, 2), (0, 4), (0, -2), (-4, 2)):
            self.check(False, ((0, 0, 0, 2, used), self.PLACES[1]))

    def test_used_parts_may_stand_in_any_order(self):
        proof = (self.PROOF[3], self.PROOF[1], (2, 1, 2, 0, (1,)), self.PROOF[0])
        self.check(True, ((0, 0, 0, 2, (3, 2)), (3, 2, 0, 3, (0,))), proof)

    def test_deed_that_cannot_be_done_among_the_steps_ahead(self):
        book = Book(1, 2, ((method(deed(0), task(1)), method(deed(0), deed(0))), ()))
        self.check(True, ((0, 3, 0, 0, ()),), (), 0, 3, book)
        self.check(False, ((0, 3, 0, 1, ()),), (), 0, 3, book)
        self.check(False, ((0, 3, 1, 1, ()),), (), 0, 3, book)
        self.check(True, ((0, 0, 0, 1, ()),), (), 0, 0, book)
        self.check(True, ((0, 2, 1, 1, ()),), (), 0, 2, book)

    def test_empty_places(self):
        self.check(True, (), (), 4, 0)
        self.check(True, (), self.PROOF, 4, 3)
        self.check(False, (), (), 4, 2)
        self.check(False, (), (), 1, 3)
        self.check(False, (), ((1, 0, 2, 0, ()),), 4, 0)
        self.check(False, ((4, 0, 0, 0, ()),), (), 4, 0)
        for wrong in (None, 0, "", False):
            self.assertIs(stuck_holds(self.BOOK, LINE, 4, 0, (wrong, ())), False)
            self.assertIs(stuck_holds(self.BOOK, LINE, 4, 0, ((), wrong)), False)
        # Not empty where none may be taken, even if the method told would lead to where one is stuck.
        book = Book(1, 2, ((method(task(1), when=((0, True),)),), ()))
        self.check(False, ((0, 0, 0, 0, ()),), (), 0, 0, book)
        self.check(True, ((0, 2, 0, 0, ()),), (), 0, 2, book)

    def test_true_is_no_number(self):
        book = Book(0, 1, ((method(deed(0)), method(deed(0), deed(0))), (method(task(0)), method(task(0), task(0)))))
        world = World(0, ((), ()), ((1,), (None,)))
        part, place, last = (0, 0, 1, 0, ()), (1, 0, 1, 1, (0,)), (0, 1, 1, 0, ())
        self.check(True, (place, last), (part,), 1, 0, book, world)
        for at in range(4):
            for wrong in (True, False):
                other = [told[:at] + (wrong,) + told[at + 1:] for told in (place, last, part)]
                self.check(False, (other[0], last), (part,), 1, 0, book, world)
                self.check(False, (place, other[1]), (part,), 1, 0, book, world)
                self.check(False, (place, last), (other[2],), 1, 0, book, world)
        self.check(False, ((1, 0, 1, 1, (False,)), last), (part,), 1, 0, book, world)

    def test_other_values(self):
        for wrong in (None, True, False, "1", "", (), (1,), [0], 10 ** 300, -10 ** 300, ((), ()), "stuck"):
            if wrong != ((), ()):
                self.assertIs(stuck_holds(self.BOOK, LINE, 4, 0, wrong), False)
            self.assertIs(stuck_holds(self.BOOK, LINE, 0, 0, wrong), False)
            self.check(False, wrong)
            self.check(False, (self.PLACES[0], wrong))
            self.check(False, (*self.PLACES, wrong))
            for at in range(5):
                place = list(self.PLACES[1])
                place[at] = wrong
                self.check(False, self.last(*place))
        self.check(False, self.last(*self.PLACES[1], ()))
        self.check(False, self.last(*self.PLACES[1][:4]))
        wrong = ((self.PLACES,), (self.PLACES, self.PROOF, ()), (self.PROOF, self.PLACES))
        for value in (*wrong, self.PLACES, self.PROOF):
            self.assertIs(stuck_holds(self.BOOK, LINE, 0, 0, value), False)

    def test_random(self):
        random = Random(34)
        right = wrong = 0
        for book, world in random_cases(200, 35):
            for which, state in every_pair(book, world):
                value = stuck(book, world, which, state)
                for _ in range(8):
                    other = spoiled(random, value or ((), ((0, 0, 0, 0, ()),)))
                    holds = stuck_holds(book, world, which, state, other)
                    self.assertIs(holds, slow_stuck_holds(book, world, which, state, other), other)
                    if holds:
                        self.assertIsNotNone(value)
                    right, wrong = right + holds, wrong + (not holds)
        self.assertGreater(right, 300)
        self.assertGreater(wrong, 5000)

    def test_long_way(self):
        """Places that go round and round before one gets stuck."""
        book = Book(0, 1, ((method(deed(0), task(0)), method()),))
        world = World(0, ((), (), ()), ((1,), (0,), (None,)))
        self.assertIsNone(stuck(book, world, 0, 0))
        book = Book(0, 2, ((method(deed(0), task(0)), method(deed(1), task(0))),))
        world = World(0, ((), (), ()), ((1, 2), (0, None), (None, None)))
        places = [(0, at % 2, 0, 1, ()) for at in range(2000)]
        self.assertIs(stuck_holds(book, world, 0, 0, ((*places, (0, 0, 1, 1, ()), (0, 2, 0, 0, ())), ())), True)
        self.assertIs(stuck_holds(book, world, 0, 0, ((*places[1:], (0, 0, 1, 1, ()), (0, 2, 0, 0, ())), ())), False)
        self.assertIs(stuck_holds(book, world, 0, 0, ((*places, (0, 0, 1, 0, ())), ())), False)
