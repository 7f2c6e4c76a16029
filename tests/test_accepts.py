"""Points [34] and [35]: which strings of facts and deeds a task accepts."""

import unittest
from random import Random

from methodworlds.books import Book, is_tails
from methodworlds.doing import courses
from methodworlds.errors import BadValue
from methodworlds.machines import accepts
from methodworlds.worlds import world_of
from tests.reference import (
    as_lists, deed, every_string, method, random_book, random_string, slow_accepts, slow_courses, random_cases, task,
)

YES, NO = (True,), (False,)


def bare(*deeds):
    """A string without facts."""
    return ((),) * (len(deeds) + 1), deeds


class TestAccepts(unittest.TestCase):
    def check(self, holds, book, string, which=0):
        self.assertIs(accepts(book, which, string), holds, string)
        self.assertIs(accepts(book, which, as_lists(string)), holds, string)
        self.assertIs(slow_accepts(book, which, string), holds, string)

    def test_the_example(self):
        book = Book(1, 2, ((((), ()), (((0, False),), (("deed", 0), ("task", 0)))), (((), (("deed", 0),)), ((), ()))))
        self.check(True, book, ((NO, NO, NO), (0, 0)))
        self.check(False, book, ((NO, YES, NO), (0, 0)))
        self.check(False, book, ((NO, NO, NO), (0, 0)), 1)
        self.check(True, book, ((YES, YES), (0,)), 1)
        self.assertIs(accepts(book=book, task=0, string=((NO, YES), (0,))), True)

    def test_no_deed(self):
        round_again = (method(task(0), task(0)), method(task(3)))
        book = Book(1, 2, ((method(when=((0, True),)),), (method(deed(0)),), (), round_again))
        for which, held in ((0, YES), (3, YES)):
            self.check(True, book, ((held,), ()), which)
        for which, held in ((0, NO), (1, YES), (1, NO), (2, YES), (2, NO), (3, NO)):
            self.check(False, book, ((held,), ()), which)
        self.check(True, Book(0, 1, ((method(),),)), bare())

    def test_all_deeds_and_no_others(self):
        book = Book(0, 3, ((method(deed(0), task(1), deed(2)),), (method(deed(1)), method())))
        for deeds in ((0, 2), (0, 1, 2)):
            self.check(True, book, bare(*deeds))
        for deeds in ((), (0,), (0, 1), (0, 2, 2), (2,), (1,), (0, 0, 2), (2, 0), (0, 1, 1, 2), (0, 1, 2, 0)):
            self.check(False, book, bare(*deeds))

    def test_facts_at_each_place(self):
        first, second = method(deed(0), task(1), when=((0, True),)), method(deed(0), task(2), when=((0, False),))
        last = (method(when=((0, True),)), method(task(2), when=((0, False),)))
        book = Book(1, 1, ((first,), (second,), last))
        self.check(True, book, ((YES, NO, YES), (0, 0)))
        for facts in ((NO, NO, YES), (YES, YES, YES), (YES, NO, NO), (NO, YES, NO)):
            self.check(False, book, (facts, (0, 0)))

    def test_facts_behind_the_last_deed(self):
        book = Book(2, 1, ((method(deed(0), task(1)),), (method(when=((0, False), (1, True))),)))
        for first in (True, False):
            for second in (True, False):
                told = ((False, False), (first, second))
                self.check((first, second) == (False, True), book, (told, (0,)))

    def test_no_facts(self):
        book = Book(0, 2, ((method(deed(1)), method(deed(1), task(0))),))
        for many in range(1, 12):
            self.check(True, book, bare(*[1] * many))
            self.check(False, book, bare(*[1] * many, 0))

    def test_tasks_that_come_back_anywhere(self):
        """Not only in tails: as many deeds 0 as deeds 1, and pairs in pairs."""
        pairs = (method(), method(task(1), task(0), task(1)))
        book = Book(0, 2, ((method(), method(deed(0), task(0), deed(1))), pairs))
        self.assertFalse(is_tails(book))
        for many in range(21):
            self.check(True, book, bare(*[0] * many, *[1] * many))
            self.check(many == 0, book, bare(*[0] * many, *[1] * (many + 1)) if many else bare())
        self.check(True, book, bare(0, 0, 1, 1, 0, 1), 1)
        self.check(False, book, bare(0, 0, 1, 1, 0, 1))
        self.check(False, book, bare(0, 0, 1, 0, 1, 1), 1)

    def test_task_that_goes_round_without_deeds(self):
        self.check(False, Book(0, 1, ((method(task(0)),),)), bare())
        self.check(False, Book(0, 1, ((method(task(0), deed(0)),),)), bare(0))
        self.check(True, Book(0, 1, ((method(task(0)), method(task(1))), (method(task(0)), method(deed(0))))), bare(0))

    def test_forty_deeds(self):
        book = Book(0, 2, ((method(), method(task(0), deed(0)), method(deed(1), task(0))),))
        for many in (0, 1, 2, 39, 40):
            self.check(True, book, bare(*[0] * many))
            self.check(True, book, bare(*[1] * (many // 2), *[0] * (many - many // 2)))
        for many in (41, 42, 100, 1000):
            self.assertIs(accepts(book, 0, bare(*[0] * many)), False)
            self.assertIs(accepts(book, 0, as_lists(bare(*[0] * many))), False)

    def test_forty_deeds_in_many_ways(self):
        book = Book(0, 1, ((method(task(0), task(0)), method(deed(0)), method(), method(task(1), task(0), task(1))),
                           (method(task(0), deed(0), task(0)), method())))
        self.check(True, book, bare(*[0] * 40))
        halves = Book(0, 1, ((method(*[task(1)] * 5),), (method(*[task(2)] * 4),), (method(deed(0), deed(0)),)))
        self.check(True, halves, bare(*[0] * 40))
        self.check(False, halves, bare(*[0] * 39))
        self.assertIs(accepts(halves, 0, bare(*[0] * 41)), False)

    def test_world_of_at_most_sixteen_states_is_no_bound(self):
        book = Book(1, 1, ((method(deed(0), task(0), when=((0, False),)), method(when=((0, True),))),))
        for many in (14, 15, 16, 17, 40):
            self.check(True, book, ((*[NO] * many, YES), (0,) * many))
            self.check(False, book, ((*[NO] * (many - 1), YES, YES), (0,) * many))

    def test_no_strings(self):
        book = Book(1, 2, ((method(), method(deed(0)), method(deed(0), deed(1))),))
        self.check(True, book, ((YES, NO), (0,)))
        wrong = (
            *(None, 0, 1, True, "", "string", (), [], ((),), ((), ()), ((YES,),), (YES,), (YES, ()), ((YES,), (), ())),
            # Facts of the wrong length, or too many or too few of them.
            *(((), ()), ((YES, YES), ()), ((YES,), (0,)), ((YES, YES, YES), (0,)), (((),), ()), (((True, True),), ())),
            *(((YES, (True, False)), (0,)), ((YES, ()), (0,)), (((), YES), (0,))),
            # Other values in the place of facts and of deeds.
            *((((1,),), ()), (((0,),), ()), (((None,),), ()), ((("1",),), ()), ((True,), ()), ((None,), ())),
            *((("1",), ()), ((YES, YES), (True,)), ((YES, YES), (False,)), ((YES, YES), (2,)), ((YES, YES), (-1,))),
            *(((YES, YES), (None,)), ((YES, YES), ((0,),)), ((YES, YES), ("0",)), ((YES, YES), "0"), ((YES,), "")),
            *(((YES,), None), ((YES,), 0)),
            *((None, ()), ("1", ()), (1, (0,)), (True, ()), ((YES, YES), (10 ** 300,)), ((YES, YES), ([],))),
            ((0,), (YES, YES)), ((YES, YES), (0,), ()), (((YES,), ()),),
        )
        for value in wrong:
            self.assertIs(accepts(book, 0, value), False, value)
            self.assertIs(accepts(book, 0, as_lists(value)), False, value)
        self.assertIs(accepts(Book(0, 2, book.tasks), 0, ((YES,), ())), False)
        self.assertIs(accepts(Book(0, 2, book.tasks), 0, ((), ())), False)

    def test_refused(self):
        book = Book(0, 1, ((method(),),))
        for wrong in (None, 0, (), "book", (0, 1, ((),))):
            with self.assertRaises(BadValue) as caught:
                accepts(wrong, None, None)
            self.assertEqual(caught.exception.at, 1)
        for wrong in (1, -1, True, False, None, "0", (0,)):
            with self.assertRaises(BadValue) as caught:
                accepts(book, wrong, None)
            self.assertEqual(caught.exception.at, 2)

    def test_string_is_not_changed(self):
        string = [[[True], [False]], [0]]
        accepts(Book(1, 1, ((method(deed(0)),),)), 0, string)
        self.assertEqual(string, [[[True], [False]], [0]])

    def test_all_short_strings(self):
        yes = no = 0
        random = Random(51)
        for _ in range(60):
            book = random_book(random, random.randint(0, 1), random.randint(1, 2), random.randint(1, 3))
            for string in every_string(book, 3):
                for which in range(len(book.tasks)):
                    holds = string[1] in courses(book, world_of(book, string), which, 0, 5)
                    self.assertIs(accepts(book, which, string), holds, (book.tasks, string))
                    yes, no = yes + holds, no + (not holds)
        self.assertGreater(yes, 400)
        self.assertGreater(no, 5000)

    def test_random(self):
        yes = no = 0
        random = Random(52)
        for _ in range(400):
            book = random_book(random, random.randint(0, 2), random.randint(1, 2), random.randint(1, 4), share=0.65)
            for _ in range(6):
                string = random_string(random, book, 12)
                for which in range(len(book.tasks)):
                    holds = slow_accepts(book, which, string)
                    self.check(holds, book, string, which)
                    yes, no = yes + holds, no + (not holds)
        self.assertGreater(yes, 100)
        self.assertGreater(no, 1000)

    def test_courses_in_any_world(self):
        """A row of deeds that can be done is a course exactly if the string along it is accepted."""
        some = 0
        for book, world in random_cases(50, 53, 3, 4):
            known = slow_courses(book, world, 3)
            for state in range(len(world)):
                for deeds, path in self.rows(world, state, 3):
                    string = (tuple(world.states[at] for at in path), deeds)
                    for which in range(len(book.tasks)):
                        is_course = (deeds, path[-1]) in known[which, state]
                        self.assertIs(accepts(book, which, string), is_course)
                        some += is_course
        self.assertGreater(some, 100)

    def rows(self, world, state, most):
        found = [((), (state,))]
        for deeds, path in found:
            if len(deeds) < most:
                found.extend((deeds + (number,), path + (to,))
                             for number, to in enumerate(world.moves[path[-1]]) if to is not None)
        return found
