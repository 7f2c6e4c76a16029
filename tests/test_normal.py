"""Points [8], [33], [36], [37] and [45]: the normal machines of tasks, and when there are too many nodes."""

import unittest
from itertools import combinations
from random import Random

from methodworlds.books import Book, is_tails
from methodworlds.errors import BadValue, TooMany
from methodworlds.machines import accepts, normal
from tests.large import chain, levels
from tests.reference import (
    as_lists, deed, every_string, is_normal, is_plain, machine_accepts, method, random_string, random_tails,
    same_strings, slow_sets, tails_cases, task,
)

LONE = (((False, (None,)),),)


class TestNormal(unittest.TestCase):
    def normal(self, book, which=0):
        machine = normal(book, which)
        self.assertEqual(machine, normal(book=book, task=which))
        self.assertTrue(is_plain(machine))
        self.assertTrue(is_normal(machine), machine)
        self.assertTrue(same_strings(machine, slow_sets(book, which)[0]), machine)
        for node in machine:
            self.assertEqual(len(node), 2 ** book.facts)
            for ends, leads in node:
                self.assertIs(type(ends), bool)
                self.assertEqual(len(leads), book.deeds)
        return machine

    def test_no_facts(self):
        self.assertEqual(self.normal(Book(0, 1, ((method(),),))), (((True, (None,)),),))
        self.assertEqual(self.normal(Book(0, 1, ((method(deed(0)),),))), (((False, (1,)),), ((True, (None,)),)))
        self.assertEqual(self.normal(Book(0, 1, ((method(), method(deed(0), task(0))),))), (((True, (0,)),),))
        self.assertEqual(self.normal(Book(0, 2, ((method(deed(1)), method(deed(0), deed(0))),))),
                         (((False, (1, 2)),), ((False, (2, None)),), ((True, (None, None)),)))

    def test_the_example(self):
        book = Book(1, 2, ((((), ()), (((0, False),), (("deed", 0), ("task", 0)))), (((), (("deed", 0),)), ((), ()))))
        self.assertEqual(self.normal(book), (((True, (0, None)), (True, (None, None))),))
        self.assertEqual(self.normal(book, 1), (((True, (1, None)),) * 2, ((True, (None, None)),) * 2))

    def test_nothing_is_accepted(self):
        self.assertEqual(self.normal(Book(0, 1, ((),))), LONE)
        self.assertEqual(self.normal(Book(0, 1, ((method(task(0)),),))), LONE)
        self.assertEqual(self.normal(Book(0, 1, ((method(deed(0), task(0)),),))), LONE)
        neither = (method(deed(0), deed(0), task(1)), method(task(1), deed(0)))
        self.assertEqual(self.normal(Book(0, 1, (neither, ()))), LONE)
        self.assertEqual(self.normal(Book(2, 3, ((method(deed(0), task(1)),), ()))), (((False, (None,) * 3),) * 4,))

    def test_conditions_that_never_hold_together(self):
        second = (method(deed(0), when=((0, False),)), method(task(2)))
        book = Book(1, 1, ((method(task(1), when=((0, True),)),), second, ()))
        self.assertEqual(self.normal(book), (((False, (None,)),) * 2,))
        self.assertEqual(self.normal(book, 1), (((False, (1,)), (False, (None,))), ((True, (None,)),) * 2))
        # Behind a deed the facts may be others.
        book = Book(1, 1, ((method(deed(0), task(1), when=((0, True),)),), (method(when=((0, False),)),)))
        self.assertEqual(self.normal(book), (((False, (None,)), (False, (1,))), ((True, (None,)), (False, (None,)))))

    def test_pairs_are_for_the_facts(self):
        """Pair number i is for the facts in which fact j holds if bit j of i is 1."""
        book = Book(2, 1, ((method(when=((0, True), (1, False))),), (method(when=((0, False), (1, True))),)))
        self.assertEqual(self.normal(book), (tuple((at == 1, (None,)) for at in range(4)),))
        self.assertEqual(self.normal(book, 1), (tuple((at == 2, (None,)) for at in range(4)),))
        for facts in range(5):
            for at in range(2 ** facts):
                when = tuple((fact, (at // 2 ** fact) % 2 == 1) for fact in range(facts))
                machine = self.normal(Book(facts, 1, ((method(when=when),),)))
                self.assertEqual(machine, (tuple((place == at, (None,)) for place in range(2 ** facts)),))

    def test_numbers_as_first_come_to(self):
        """Pair by pair, then deed by deed; node by node."""
        book = Book(1, 2, ((
            method(deed(1), deed(0), when=((0, False),)),
            method(deed(0), deed(1), deed(1), when=((0, False),)),
            method(deed(0), deed(0), deed(0), deed(1), when=((0, True),)),
        ),))
        machine = self.normal(book)
        self.assertEqual(machine[0], ((False, (1, 2)), (False, (3, None))))
        self.assertEqual(machine[1], ((False, (None, 4)),) * 2)
        self.assertEqual(machine[2], ((False, (5, None)),) * 2)
        self.assertEqual(machine[3], ((False, (6, None)),) * 2)
        self.assertEqual(machine[4], ((False, (None, 5)),) * 2)
        self.assertEqual(machine[5], ((True, (None, None)),) * 2)
        self.assertEqual(machine[6], ((False, (4, None)),) * 2)

    def test_no_two_nodes_accept_the_same(self):
        book = Book(0, 2, ((method(deed(0), task(1)), method(deed(1), task(2))), (method(deed(0)), method()),
                           (method(), method(task(3))), (method(deed(0)),)))
        self.assertEqual(self.normal(book), (((False, (1, 1)),), ((True, (2, None)),), ((True, (None, None)),)))

    def test_dead_nodes_are_left_out(self):
        book = Book(0, 2, ((method(deed(0), task(1)), method(deed(1), task(0)), method()), (method(deed(0), task(1)),)))
        self.assertEqual(self.normal(book), (((True, (None, 0)),),))

    def test_node_0_need_not_be_come_to_again(self):
        self.assertEqual(self.normal(Book(0, 1, ((method(deed(0), task(1)),), (method(deed(0), task(1)), method())))),
                         (((False, (1,)),), ((True, (1,)),)))

    def test_tasks_ahead_of_the_last_step(self):
        some = (method(deed(0)), method(deed(1), deed(1)), method())
        book = Book(0, 2, ((method(task(1), task(1), task(0)), method()), some))
        self.assertEqual(self.normal(book), (((True, (0, 1)),), ((False, (None, 0)),)))
        book = Book(0, 2, ((method(task(1), deed(1)),), (method(deed(0), task(1)), method(deed(0)))))
        self.assertEqual(self.normal(book), (((False, (1, None)),), ((False, (1, 2)),), ((True, (None, None)),)))

    def test_two_tasks_that_accept_the_same(self):
        """Loops written in several ways."""
        same = (
            Book(0, 2, ((method(), method(deed(0), task(0))),)),
            Book(0, 2, ((method(deed(0), task(0)), method(), method(), method(deed(0), deed(0), task(0))),)),
            Book(0, 2, ((method(task(1)),), (method(task(0)), method(), method(deed(0), task(0))))),
            Book(0, 2, ((method(task(1), task(0)), method(deed(0)), method()), (method(deed(0)), method()))),
        )
        for one, other in combinations(same, 2):
            self.assertEqual(self.normal(one), self.normal(other))
        others = (
            Book(0, 2, ((method(deed(0)), method(deed(0), task(0))),)),
            Book(0, 2, ((method(), method(deed(1), task(0))),)),
            Book(0, 2, ((method(), method(deed(0), deed(0), task(0))),)),
        )
        for one, other in combinations((same[0], *others), 2):
            self.assertNotEqual(self.normal(one), self.normal(other))

    def test_equal_machines_exactly_if_the_same_is_accepted(self):
        same = others = 0
        for book in tails_cases(250, 61, 4):
            machines = [normal(book, which) for which in range(len(book.tasks))]
            for one, other in combinations(machines, 2):
                accepted = same_strings(one, other)
                self.assertEqual(one == other, accepted)
                same, others = same + accepted, others + (not accepted)
        self.assertGreater(same, 50)
        self.assertGreater(others, 50)

    def test_short_strings(self):
        for book in tails_cases(60, 62, 3):
            if book.facts < 2 and book.deeds < 3:
                for which in range(len(book.tasks)):
                    machine = normal(book, which)
                    for string in every_string(book, 3):
                        self.assertIs(accepts(book, which, string), machine_accepts(machine, string))

    def test_random(self):
        random = Random(63)
        nodes = {}
        for book in tails_cases(250, 64, 5):
            self.assertTrue(is_tails(book))
            for which in range(len(book.tasks)):
                machine = self.normal(book, which)
                nodes[len(machine)] = nodes.get(len(machine), 0) + 1
                for _ in range(4):
                    string = random_string(random, book, 10)
                    self.assertIs(accepts(book, which, string), machine_accepts(machine, string))
        self.assertGreater(len(nodes), 10)

    def test_lists(self):
        for book in tails_cases(10, 65):
            other = Book(book.facts, book.deeds, as_lists(book.tasks))
            self.assertEqual(normal(book, 0), normal(other, 0))


class TestRefused(unittest.TestCase):
    def refuse(self, at, *arguments):
        with self.assertRaises(BadValue) as caught:
            normal(*arguments)
        self.assertEqual(caught.exception.at, at)

    def test_no_book(self):
        for wrong in (None, 0, (), "book", (0, 1, ((),))):
            self.refuse(1, wrong, 0)
            self.refuse(1, wrong, None)

    def test_not_tails_only(self):
        wrong = (
            ((method(task(0), deed(0)),),),
            ((method(deed(0), task(0), task(0)), method()),),
            ((method(task(1), deed(0)),), (method(deed(0), task(0)),)),
            # Also where the task asked for does not lead to what comes back.
            ((method(deed(0)),), (method(task(1), task(1)), method())),
        )
        for tasks in wrong:
            book = Book(0, 1, tasks)
            self.assertFalse(is_tails(book))
            self.refuse(1, book, 0)
            self.refuse(1, book, 9)
            self.refuse(1, book, None)

    def test_no_task(self):
        book = Book(0, 1, ((method(),), ()))
        for wrong in (2, -1, True, False, None, "0", (0,), 10 ** 300):
            self.refuse(2, book, wrong)


class TestTooMany(unittest.TestCase):
    REST = (4, 0), (4, 0), (3, 1), (0, 1)

    def too_many(self, book, which=0):
        with self.assertRaises(TooMany) as caught:
            normal(book, which)
        self.assertEqual(caught.exception.word, "nodes")

    def check(self, book, sets, rows=None, which=0):
        """Ask for the machine of a task with so many sets, of which at most so many rows come about, a few or told."""
        nodes, most = slow_sets(book, which)
        self.assertEqual(len(nodes), sets)
        self.assertTrue(most < 20 if rows is None else most == rows, most)
        if sets > 300 or most > 2000:
            self.too_many(book, which)
        else:
            self.assertTrue(same_strings(normal(book, which), nodes))

    def test_sets_in_a_line(self):
        """So many deeds, each of which leads to another set; the last set is that of the empty row."""
        right = chain("13354", "2d2", "d3334", "54545", "dddd5", "ddddd")
        self.check(right, 300)
        self.assertEqual(len(normal(right, 0)), 300)
        wrong = chain("531", "2224", "344d4", "d44", "5d55", "ddddd")
        self.check(wrong, 301)
        self.assertLess(len(normal(wrong, 1)), 301)

    def test_sets_that_accept_nothing_count(self):
        """Lines of deeds behind which comes a task that cannot be done."""
        right = chain("1215", "2d23", "3433", "444d", "ddddd", last=((),))
        self.check(right, 300)
        self.assertEqual(normal(right, 0), (((False, (None, None)),),))
        wrong = chain("215", "23342", "34333", "4444", "ddddd", last=((),))
        self.check(wrong, 301)

    def test_the_set_without_a_row_does_not_count(self):
        """All other deeds lead to it."""
        right = chain("13354", "2d2", "d3334", "54545", "dddd5", "ddddd")
        self.assertIn(None, [to for node in slow_sets(right, 0)[0] for _, leads in node for to in leads])
        self.assertEqual(len(normal(right, 0)), 300)

    def test_sets_of_all_kinds(self):
        """Books with just as many sets, of which many go together in one node or accept nothing."""
        for seed, which, sets, nodes in (
            *((2417, 3, 300, 132), (9639, 1, 300, 72), (6573, 1, 300, 211), (11061, 0, 300, 300), (8697, 2, 300, 140)),
            *((8619, 1, 301, None), (16731, 3, 301, None), (13941, 1, 301, None), (2166, 0, 301, None)),
        ):
            random = Random(seed)
            book = random_tails(random, random.randint(0, 2), random.randint(1, 3), 6, 5, 5)
            self.assertEqual(len(slow_sets(book, which)[0]), sets)
            if nodes is None:
                self.too_many(book, which)
            else:
                self.assertEqual(len(normal(book, which)), nodes)

    def test_rows_of_the_first_set(self):
        self.check(levels((3, 1), (5, 0), *self.REST), 10, 2000)
        self.check(levels((5, 0), (3, 0), *self.REST), 10, 2001)

    def test_rows_of_a_later_set(self):
        first = [method(deed(0), task(1), deed(at)) for at in range(5)]
        self.check(levels((3, 0), *self.REST, first=first), 11, 2000)
        later = levels((3, 0), (4, 1), (3, 0), (3, 2), (0, 4), first=first[:3])
        self.check(later, 16, 2001)

    def test_rows_for_some_facts(self):
        book = levels((3, 1), (5, 0), *self.REST, facts=2)
        for when, rows in ((((0, True), (1, True)), 2001), (((0, False),), 2001)):
            more = (*book.tasks[0], method(deed(4), when=when))
            self.check(Book(2, 5, (more, *book.tasks[1:])), 10, rows)
        # Two methods of which at most one may be taken.
        others = levels((3, 0), (5, 0), *self.REST, facts=2).tasks
        either = (*others[0], method(deed(4), when=((0, False),)), method(deed(3), when=((0, True),)))
        self.check(Book(2, 5, (either, *others[1:])), 10, 2000)

    def test_each_row_comes_about_once(self):
        book = levels((3, 1), (5, 0), *self.REST)
        twice = (*book.tasks[:5], (book.tasks[5][0],) * 5)
        self.check(Book(0, 5, twice), 10, 2000)

    def test_far_more(self):
        self.too_many(levels((5, 0), (5, 0), (5, 0), (5, 0), (5, 0), (0, 5)))
        self.too_many(chain("11111", "22222", "33333", "44444", "55555", "ddddd"))

    def test_no_bound_on_rows_that_come_back(self):
        other = (method(task(0)), method(task(1)), method(deed(0), task(1)))
        book = Book(0, 1, ((method(task(0)), method(task(1)), method()), other))
        self.assertEqual(len(normal(book, 0)), 1)
