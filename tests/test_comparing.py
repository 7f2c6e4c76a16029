"""Points [7] to [9], [35], [38], [39], [41], [42] and [45]: comparing two tasks in all worlds."""

import unittest
from itertools import product
from random import Random

from methodworlds.books import Book
from methodworlds.comparing import apart, same, within
from methodworlds.doing import courses, ends
from methodworlds.errors import BadValue, TooMany
from methodworlds.machines import accepts, normal
from methodworlds.worlds import world_of
from tests.large import MANY_ROWS_2000, MANY_ROWS_2001, ROWS_2000, ROWS_2001, SETS_300, SETS_301, chain
from tests.reference import (
    as_lists, deed, every_string, fewest_deeds_apart, is_plain, machine_accepts, method, near, random_tails,
    random_world, slow_accepts, slow_courses, slow_ends, slow_sets, tails_cases, task,
)

EXAMPLE = Book(1, 2, ((((), ()), (((0, False),), (("deed", 0), ("task", 0)))), (((), (("deed", 0),)), ((), ()))))


class Comparing(unittest.TestCase):
    def check_string(self, string, first, which, second, other):
        """A string that the first task accepts and the second one does not: as a string, and in its world."""
        facts, deeds = string
        self.assertTrue(is_plain(string))
        self.assertEqual(len(facts), len(deeds) + 1)
        self.assertTrue(machine_accepts(slow_sets(first, which)[0], string))
        self.assertFalse(machine_accepts(slow_sets(second, other)[0], string))
        if len(deeds) <= 40:
            self.assertIs(accepts(first, which, string), True)
            self.assertIs(accepts(second, other, string), False)
            self.assertTrue(slow_accepts(first, which, string))
            self.assertFalse(slow_accepts(second, other, string))
        if len(deeds) <= 15:
            # In this world a course is known by the state in which it ends.
            world = world_of(first, string)
            self.assertIn(len(deeds), ends(first, world, which, 0))
            self.assertNotIn(len(deeds), ends(second, world, other, 0))
            self.assertNotEqual(slow_ends(first, world)[which, 0], slow_ends(second, world)[other, 0])
        if len(deeds) <= 5:
            self.assertIn(deeds, courses(first, world, which, 0, 5))
            self.assertNotIn(deeds, courses(second, world, other, 0, 5))

    def check(self, first, which, second, other):
        """Compare the two tasks in every way, and return how long the string is that tells them apart, or None."""
        one, two = slow_sets(first, which)[0], slow_sets(second, other)[0]
        many = fewest_deeds_apart(one, two)
        string = apart(first, which, second, other)
        machines = normal(first, which), normal(second, other)
        self.assertIs(same(first, which, second, other), many is None)
        self.assertEqual(machines[0] == machines[1], many is None)
        if many is None:
            self.assertIsNone(string)
        else:
            self.assertEqual(len(string[1]), many)
            self.assertLess(many, len(machines[0]) + len(machines[1]))
            if machine_accepts(one, string):
                self.check_string(string, first, which, second, other)
            else:
                self.check_string(string, second, other, first, which)
        self.check_within(first, which, second, other)
        self.check_within(second, other, first, which)
        return many

    def check_within(self, first, which, second, other):
        many = fewest_deeds_apart(slow_sets(first, which)[0], slow_sets(second, other)[0], True)
        string = within(first, which, second, other)
        if many is None:
            self.assertIsNone(string)
        else:
            self.assertEqual(len(string[1]), many)
            self.check_string(string, first, which, second, other)
        return many


class TestComparing(Comparing):
    def test_the_example(self):
        self.assertEqual(apart(EXAMPLE, 0, EXAMPLE, 1)[1], (0,))
        self.assertIs(apart(EXAMPLE, 0, EXAMPLE, 1)[0][0][0], True)
        self.assertEqual(self.check(EXAMPLE, 0, EXAMPLE, 1), 1)
        self.assertIsNone(self.check(EXAMPLE, 0, EXAMPLE, 0))
        self.assertEqual(within(EXAMPLE, 0, EXAMPLE, 1)[0][:2], ((False,), (False,)))
        self.assertEqual(within(EXAMPLE, 0, EXAMPLE, 1)[1], (0, 0))

    def test_by_name(self):
        names = {"first": EXAMPLE, "task": 0, "second": EXAMPLE, "other": 1}
        self.assertIs(same(**names), False)
        self.assertEqual(apart(**names), apart(EXAMPLE, 0, EXAMPLE, 1))
        self.assertEqual(within(**names), within(EXAMPLE, 0, EXAMPLE, 1))

    def test_no_deed_is_enough(self):
        book = Book(1, 1, ((method(when=((0, True),)),), (method(),), (), (method(deed(0)),)))
        self.assertEqual(apart(book, 0, book, 1), (((False,),), ()))
        self.assertEqual(apart(book, 1, book, 0), (((False,),), ()))
        self.assertIsNone(within(book, 0, book, 1))
        self.assertEqual(within(book, 1, book, 0), (((False,),), ()))
        self.assertEqual(within(book, 0, book, 2), (((True,),), ()))
        self.assertIsNone(within(book, 2, book, 0))
        for which, other in product(range(4), repeat=2):
            self.check(book, which, book, other)

    def test_nothing_is_accepted_by_either(self):
        never = Book(0, 1, ((method(deed(0), task(0)),), (), (method(task(1)), method(deed(0), task(1)))))
        for which, other in product(range(3), repeat=2):
            self.assertIsNone(self.check(never, which, never, other))

    def test_without_facts(self):
        loop = Book(0, 2, ((method(), method(deed(0), task(0)), method(deed(1), deed(1), task(0))),))
        for change, many in (
            ((method(), method(deed(0), task(0))), 2),
            ((method(), method(deed(0), task(0)), method(deed(1), task(0))), 1),
            ((method(deed(1), deed(1), task(0)), method(), method(deed(0), task(0)), method()), None),
            ((method(), method(deed(0), task(0)), method(deed(1), deed(1))), 3),
            ((method(deed(0), task(0)), method(deed(1), deed(1), task(0))), 0),
            ((method(), method(deed(0), deed(0), task(0)), method(deed(0)), method(deed(1), deed(1), task(0))), 3),
        ):
            self.assertEqual(self.check(loop, 0, Book(0, 2, (change,)), 0), many, change)

    def test_with_four_facts(self):
        full = tuple((fact, fact % 2 == 0) for fact in range(4))
        book = Book(4, 2, ((method(deed(0), task(1), when=full),), (method(when=full), method(deed(1), task(1)))))
        for change in range(4):
            other = tuple((fact, wanted is not (fact == change)) for fact, wanted in full)
            for methods in ((method(deed(0), task(1), when=other),), (method(deed(0), task(1), when=full[:change]),)):
                self.assertEqual(self.check(book, 0, Book(4, 2, (methods, book.tasks[1])), 0), 1)
            ending = (method(when=other), book.tasks[1][1])
            self.assertEqual(self.check(book, 0, Book(4, 2, (book.tasks[0], ending)), 0), 1)
        split = [method(deed(0), task(1), when=(*full[:3], (3, wanted))) for wanted in (True, False)]
        wide = Book(4, 2, ((method(deed(0), task(1), when=full[:3]),), book.tasks[1]))
        self.assertIsNone(self.check(wide, 0, Book(4, 2, (split, book.tasks[1])), 0))
        string = within(wide, 0, book, 0)
        self.assertEqual(string[0][0], (True, False, True, True))
        self.assertIsNone(within(book, 0, wide, 0))

    def test_facts_of_the_string(self):
        """Fact number j of each tuple is the one that the conditions call j, at the place at which it is asked."""
        places = (((0, True),), ((1, False),), ((0, False), (2, True)))
        tasks = [(method(deed(0), task(at + 1), when=when),) for at, when in enumerate(places)]
        book = Book(3, 1, (*tasks, (method(),), ()))
        facts, deeds = apart(book, 0, book, 4)
        self.assertEqual(deeds, (0, 0, 0))
        self.assertEqual((facts[0][0], facts[1][1], facts[2][2], facts[2][0]), (True, False, True, False))
        self.check(book, 0, book, 4)

    def test_long_ways(self):
        """Deeds one by one, by twos, and so on: only multiples of a number are accepted."""
        def rounds(many):
            return Book(0, 1, ((method(), method(*[deed(0)] * min(many, 4), task(1))),
                               (method(*[deed(0)] * max(many - 4, 0), task(0)),)))

        for one, other in product(range(1, 9), repeat=2):
            many = self.check(rounds(one), 0, rounds(other), 0)
            self.assertEqual(many, None if one == other else min(one, other))
            inside = self.check_within(rounds(one), 0, rounds(other), 0)
            self.assertEqual(inside, None if one % other == 0 else one)

    def test_within_by_a_way_longer_than_both(self):
        """All multiples of 5, beside all but those numbers that leave 4 when divided by 7."""
        fives = Book(0, 1, ((method(), method(deed(0), task(1))), (method(*[deed(0)] * 4, task(0)),), ()))
        some = (method(), method(deed(0)), method(deed(0), deed(0)), method(*[deed(0)] * 3), method(task(1)))
        rest = (method(*[deed(0)] * 5), method(*[deed(0)] * 4, task(2)))
        last = (method(deed(0), deed(0)), method(*[deed(0)] * 3, task(0)))
        sevens = Book(0, 1, (some, rest, last))
        self.assertEqual(self.check_within(fives, 0, sevens, 0), 25)
        self.assertEqual(self.check(fives, 0, sevens, 0), 1)
        self.assertEqual(self.check_within(sevens, 0, fives, 0), 1)

    def test_strings_of_fifteen_deeds_and_more(self):
        nothing = Book(0, 2, ((),))
        for word, many in (("d", 1), ("ddddd", 5), ("d1", 4), ("1dd", 5), ("11", 6), ("1111d", 13)):
            self.assertEqual(self.check(chain(word, "ddd"), 0, nothing, 0), many, word)
        for word, many in (("11111", 20), ("11110", None), ("111dd", 14), ("111d", 13)):
            self.assertEqual(self.check(chain(word, "dddd"), 0, nothing, 0), many)
        self.assertEqual(self.check(chain("11111", "ddd"), 0, nothing, 0), 15)
        self.assertEqual(self.check(chain("1111", "dddd"), 0, nothing, 0), 16)
        self.assertEqual(self.check(chain("1111d", "dddd"), 0, chain("1111", "dddd"), 0), 16)
        self.assertEqual(self.check(chain("1111", "2222", "ddd"), 0, chain("1111d", "2222", "ddd"), 0), 48)

    def test_tasks_of_one_book(self):
        for book in tails_cases(60, 71, 4):
            for which, other in product(range(len(book.tasks)), repeat=2):
                self.check(book, which, book, other)

    def test_near_books(self):
        random = Random(72)
        lengths = {}
        for book in tails_cases(250, 73, 4):
            other = near(random, book)
            for which in range(len(book.tasks)):
                many = self.check(book, which, other, which)
                lengths[many] = lengths.get(many, 0) + 1
        self.assertGreater(lengths[None], 100)
        for many in range(5):
            self.assertGreater(lengths[many], 4, lengths)

    def test_near_books_with_many_facts(self):
        random = Random(74)
        told = 0
        for at in range(60):
            book = random_tails(random, random.choice((0, 3, 4)), random.randint(1, 5), random.randint(1, 6), 4, 4)
            other = near(random, near(random, book))
            told += self.check(book, 0, other, 0) is not None
        self.assertGreater(told, 5)

    def test_no_shorter_string(self):
        random = Random(75)
        for book in tails_cases(40, 76, 3):
            other = near(random, book)
            if book.facts > 1 or book.deeds > 2:
                continue
            for which in range(len(book.tasks)):
                told = [string for string in every_string(book, 3)
                        if accepts(book, which, string) is not accepts(other, which, string)]
                string = apart(book, which, other, which)
                if told:
                    self.assertEqual(len(string[1]), len(told[0][1]))
                elif string is not None:
                    self.assertGreater(len(string[1]), 3)

    def test_the_same_courses_in_every_world(self):
        """Tasks that are the same have the same courses, and one within another one has no others."""
        random = Random(77)
        known = 0
        for book in tails_cases(120, 78, 4):
            other = near(random, book)
            world = random_world(random, book.facts, book.deeds, random.randint(1, 4))
            one, two = slow_courses(book, world, 4), slow_courses(other, world, 4)
            for which, state in product(range(len(book.tasks)), range(len(world))):
                if same(book, which, other, which):
                    self.assertEqual(one[which, state], two[which, state])
                    self.assertEqual(courses(book, world, which, state, 5), courses(other, world, which, state, 5))
                    self.assertEqual(ends(book, world, which, state), ends(other, world, which, state))
                if within(book, which, other, which) is None:
                    self.assertLessEqual(one[which, state], two[which, state])
                    known += one[which, state] < two[which, state]
        self.assertGreater(known, 5)

    def test_lists(self):
        for book in tails_cases(10, 79):
            other = Book(book.facts, book.deeds, as_lists(book.tasks))
            self.assertIs(same(book, 0, other, 0), True)


class TestRefused(unittest.TestCase):
    def refuse(self, at, *arguments):
        for call in (same, apart, within):
            with self.assertRaises(BadValue, msg=arguments) as caught:
                call(*arguments)
            self.assertEqual(caught.exception.at, at, arguments)

    def test_second_book(self):
        good = Book(1, 2, ((method(deed(0)), method()), ()))
        for facts, deeds in ((0, 2), (2, 2), (1, 1), (1, 3), (0, 1)):
            self.refuse(3, good, 0, Book(facts, deeds, ((),)), 0)
            self.refuse(3, good, 0, Book(facts, deeds, ((),)), 9)
            self.refuse(2, good, 2, Book(facts, deeds, ((),)), 0)
        self.refuse(3, good, 0, Book(1, 2, ((), (method(task(1), deed(0)),))), 0)
        self.refuse(3, good, 0, Book(1, 2, ((), (method(task(1), deed(0)),))), None)
        self.assertIs(same(good, 0, Book(1, 2, ((method(), method(deed(0)), method()),)), 0), True)

    def test_other_task_is_one_of_the_second_book(self):
        good, more = Book(0, 1, ((),)), Book(0, 1, ((), (), ()))
        self.refuse(4, more, 2, good, 1)
        self.refuse(4, more, 2, good, 2)
        self.refuse(2, good, 2, more, 2)
        self.assertIs(same(good, 0, more, 2), True)

    def test_errors_come_ahead_of_too_many(self):
        small = Book(0, 2, ((),))
        self.refuse(3, SETS_301, 0, None, 0)
        self.refuse(4, SETS_301, 0, small, 1)
        self.refuse(2, SETS_301, 6, SETS_301, 0)
        self.refuse(3, ROWS_2001, 0, MANY_ROWS_2001, 0)


class TestTooMany(unittest.TestCase):
    def too_many(self, *arguments):
        for call in (same, apart, within):
            with self.assertRaises(TooMany) as caught:
                call(*arguments)
            self.assertEqual(caught.exception.word, "nodes")

    def test_just_as_many_sets(self):
        self.assertEqual(len(slow_sets(SETS_300, 0)[0]), 300)
        self.assertIs(same(SETS_300, 0, SETS_300, 0), True)
        self.assertIsNone(apart(SETS_300, 0, SETS_300, 0))
        self.assertIsNone(within(SETS_300, 0, SETS_300, 0))
        empty = Book(0, 2, ((),))
        for string in (apart(SETS_300, 0, empty, 0), apart(empty, 0, SETS_300, 0), within(SETS_300, 0, empty, 0)):
            self.assertEqual(string, (((),) * 300, (0,) * 299))
        self.assertIsNone(within(empty, 0, SETS_300, 0))

    def test_more_sets(self):
        self.assertEqual(len(slow_sets(SETS_301, 0)[0]), 301)
        for other in (SETS_300, SETS_301, Book(0, 2, ((),))):
            self.too_many(SETS_301, 0, other, 0)
            self.too_many(other, 0, SETS_301, 0)

    def test_rows(self):
        for right, wrong in ((ROWS_2000, ROWS_2001), (MANY_ROWS_2000, MANY_ROWS_2001)):
            self.assertEqual(slow_sets(right, 0)[1], 2000)
            self.assertEqual(slow_sets(wrong, 0)[1], 2001)
            self.assertIs(same(right, 0, right, 0), True)
            self.assertIsNone(apart(right, 0, right, 0))
            self.assertIsNone(within(right, 0, right, 0))
            self.too_many(right, 0, wrong, 0)
            self.too_many(wrong, 0, right, 0)
            self.too_many(wrong, 0, wrong, 0)

    def test_only_the_tasks_asked_for_count(self):
        """The other tasks of the books may have any number of nodes."""
        self.assertIs(same(SETS_301, 5, SETS_301, 5), True)
        self.assertIs(same(ROWS_2001, 5, ROWS_2001, 4), True)
