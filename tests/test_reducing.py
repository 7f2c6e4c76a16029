"""Points [10], [43] (needless), [44] and [45]: which methods can be left out."""

import unittest
from itertools import combinations, product
from random import Random

from methodworlds.books import Book, without
from methodworlds.comparing import same, within
from methodworlds.errors import BadValue, TooMany
from methodworlds.machines import accepts, normal
from methodworlds.reducing import fewest, fewest_holds, needless
from tests.large import (
    LESS_300, LESS_301, MANY_ROWS_2000, MANY_ROWS_2001, ROWS_2000, ROWS_2001, SETS_300, SETS_301,
)
from tests.reference import (
    as_lists, deed, fewest_deeds_apart, is_plain, machine_accepts, method, near, random_tails, slow_alone, slow_fewest,
    slow_fewest_holds, slow_needless, slow_own, slow_sets, spoiled, task,
)

BIG = 10 ** 300
NO_TAILS = Book(0, 1, ((method(deed(0)),), (method(task(1), deed(0)),)))


def own_cases(many, seed, most_own=6):
    """Tasks of random books with at most so many own methods, some of them needless."""
    random = Random(seed)
    while many:
        book = random_tails(random, random.randint(0, 2), random.randint(1, 2), random.randint(1, 3))
        if random.random() < 0.7:
            book = near(random, near(random, book))
        for which in range(len(book.tasks)):
            if many and len(slow_own(book, which)) <= most_own:
                many -= 1
                yield book, which


class TestNeedless(unittest.TestCase):
    def check(self, wanted, *tasks, which=0, facts=0):
        book = Book(facts, 2, tasks)
        self.assertEqual(needless(book, which), wanted, tasks)
        self.assertEqual(needless(book=book, task=which), wanted)
        self.assertEqual(slow_needless(book, which), wanted)

    def test_none(self):
        self.check((), ())
        self.check((), (method(),))
        self.check((), (method(deed(0)), method(deed(0), deed(1), task(0))))

    def test_doubled_ones_go_alone_but_not_together(self):
        self.check(((0, 0), (0, 1)), (method(deed(0)), method(deed(0))))
        book = Book(0, 2, ((method(deed(0)), method(deed(0))),))
        self.assertIs(same(book, 0, without(book, ((0, 0),)), 0), True)
        self.assertIs(same(book, 0, without(book, ((0, 0), (0, 1))), 0), False)
        self.check(((0, 0), (0, 2), (1, 0), (1, 1)),
                   (method(task(1)), method(deed(1)), method(task(1))), (method(deed(0)), method(deed(0))))

    def test_narrower_and_wider_ones(self):
        narrow, wide = method(deed(0), when=((0, True),)), method(deed(0))
        self.check(((0, 0),), (narrow, wide), facts=1)
        self.check(((0, 1), (0, 2)), (wide, narrow, narrow), facts=1)
        self.check(((0, 0), (0, 1), (0, 2)), (narrow, method(deed(0), when=((0, False),)), wide), facts=1)

    def test_what_other_methods_do_together(self):
        """A method without which the same is done by two turns of another one; a task with but one method."""
        self.check(((0, 2),), (method(), method(deed(0), task(0)), method(deed(0), deed(0), task(0))))
        self.check(((0, 1), (0, 2), (1, 0)), (method(deed(0)), method(deed(1)), method(task(1))), (method(deed(1)),))

    def test_methods_of_other_tasks(self):
        """Of all tasks; those to which the task does not lead are needless, whatever they are."""
        other = (method(deed(1)), method(deed(0)), method(task(1)))
        self.check(((1, 0), (1, 1), (1, 2)), (method(deed(0)),), other)
        self.check(((0, 0), (1, 2)), (method(deed(0)),), other, which=1)
        self.check(((0, 0), (2, 0)), (method(),), (method(deed(0)),), (method(task(0)),), which=1)

    def test_nothing_is_accepted(self):
        self.check(((0, 0), (0, 1)), (method(task(0)), method(deed(0), task(1))), ())

    def test_random(self):
        random = Random(81)
        some = 0
        for _ in range(150):
            book = random_tails(random, random.randint(0, 2), random.randint(1, 2), random.randint(1, 4))
            book = near(random, near(random, book))
            for which in range(len(book.tasks)):
                found = needless(book, which)
                self.assertTrue(is_plain(found))
                self.assertEqual(found, slow_needless(book, which))
                some += 0 < len(found) < sum(len(methods) for methods in book.tasks)
        self.assertGreater(some, 80)

    def test_too_many_for_the_task(self):
        for book in (SETS_301, ROWS_2001, MANY_ROWS_2001):
            self.too_many(book)
        for book in (SETS_300, ROWS_2000, MANY_ROWS_2000):
            self.assertEqual(needless(book, 0), slow_needless(book, 0))

    def test_too_many_without_a_method(self):
        less = without(LESS_301, ((0, 2),))
        self.assertEqual((len(slow_sets(LESS_301, 0)[0]), len(slow_sets(less, 0)[0])), (54, 301))
        self.assertEqual(len(slow_sets(without(LESS_300, ((0, 2),)), 0)[0]), 300)
        self.too_many(LESS_301)
        self.assertEqual(needless(LESS_300, 0), ((0, 1),))
        # The task that has so many sets is not come to from this one.
        self.assertEqual(len(needless(LESS_301, 1)), 5)

    def too_many(self, book):
        with self.assertRaises(TooMany) as caught:
            needless(book, 0)
        self.assertEqual(caught.exception.word, "nodes")


class TestFewest(unittest.TestCase):
    def check(self, book, which=0):
        """Ask for the fewest methods, look at all that is told, and return how many there are."""
        told = fewest(book, which)
        self.assertEqual(told, fewest(book=book, task=which))
        self.assertTrue(is_plain(told))
        kept, proofs = told
        self.assertIn(kept, slow_fewest(book, which))
        whole = slow_sets(book, which)[0]
        choices = list(combinations(slow_own(book, which), len(kept) - 1)) if kept else []
        self.assertEqual([choice for choice, _ in proofs], choices)
        for choice, string in proofs:
            left = without(book, [pair for pair in slow_own(book, which) if pair not in choice])
            self.assertTrue(machine_accepts(whole, string))
            self.assertFalse(machine_accepts(slow_alone(book, which, choice), string))
            if len(string[1]) <= 40:
                self.assertIs(accepts(book, which, string), True)
                self.assertIs(accepts(left, which, string), False)
            self.assertIs(same(book, which, left, which), False)
            self.assertIsNone(within(left, which, book, which))
        self.assertIs(fewest_holds(book, which, kept, proofs), True)
        self.assertIs(fewest_holds(book=book, task=which, kept=as_lists(kept), proofs=as_lists(proofs)), True)
        self.assertTrue(slow_fewest_holds(book, which, kept, proofs))
        return len(kept)

    def test_the_example(self):
        book = Book(1, 2, ((((), ()), (((0, False),), (("deed", 0), ("task", 0)))), (((), (("deed", 0),)), ((), ()))))
        self.assertEqual(self.check(book, 0), 2)
        self.assertEqual(self.check(book, 1), 2)
        self.assertEqual(fewest(book, 1)[0], ((1, 0), (1, 1)))

    def test_nothing_is_accepted(self):
        """k is 0, and there is no choice of fewer."""
        for tasks in (
            ((),), ((method(task(0)),),), ((method(deed(0), task(0)), method(task(1), deed(0))), ()),
            ((method(task(1)),), (method(deed(0), task(2)),), (method(task(2)),), (method(),)),
        ):
            book = Book(0, 1, tasks)
            self.assertEqual(fewest(book, 0), ((), ()))
            self.assertEqual(self.check(book), 0)

    def test_one(self):
        book = Book(0, 1, ((method(deed(0)), method(deed(0)), method(deed(0))),))
        self.assertEqual(fewest(book, 0)[1], (((), (((), ()), (0,))),))
        self.assertEqual(self.check(book), 1)

    def test_all_are_needed(self):
        tasks = [(method(deed(0)), method(deed(1), task(1))), (method(), method(deed(0), deed(0), task(1)))]
        self.assertEqual(self.check(Book(0, 2, tasks)), 4)
        self.assertEqual(fewest(Book(0, 2, tasks), 0)[0], ((0, 0), (0, 1), (1, 0), (1, 1)))

    def test_doubled_ones(self):
        one, two = method(deed(0)), method(deed(1), deed(0), task(0))
        self.assertEqual(self.check(Book(0, 2, ((one, two, one, two, one),))), 2)
        self.assertEqual(self.check(Book(0, 2, ((method(task(1)), method(task(2))), (one, one), (one, one)))), 2)

    def test_narrower_and_wider_ones(self):
        narrow, other = method(deed(0), when=((0, True),)), method(deed(0), when=((0, False),))
        wide = method(deed(0))
        self.assertEqual(self.check(Book(1, 1, ((narrow, wide),))), 1)
        self.assertEqual(fewest(Book(1, 1, ((narrow, other, wide),)), 0)[0], ((0, 2),))
        self.assertEqual(self.check(Book(1, 1, ((narrow, other, narrow, other),))), 2)
        self.assertEqual(self.check(Book(1, 1, ((narrow, other, wide), (method(task(0)),)),), 1), 2)

    def test_fewer_than_leaving_needless_ones_out_one_by_one(self):
        """If the needless method 2 were left out first, then methods 0 and 1 would be needed in its place."""
        halves = [method(deed(at), when=((fact, wanted),)) for at, fact, wanted in ((0, 0, True), (0, 0, False))]
        book = Book(1, 2, ((*halves, method(deed(0)), method(deed(1))),))
        self.assertEqual(fewest(book, 0)[0], ((0, 2), (0, 3)))
        self.assertEqual(self.check(book), 2)

    def test_methods_of_other_tasks_do_not_count(self):
        others = (method(), method(deed(0)), method(deed(1)), method(task(1)), method(task(0)))
        book = Book(0, 2, ((method(deed(0)), method(deed(0), deed(0)), method(deed(0))), others, others, others))
        self.assertEqual(self.check(book), 2)
        self.assertEqual(slow_own(book, 0), [(0, 0), (0, 1), (0, 2)])

    def test_six_own_methods(self):
        rows = [method(*[deed(0)] * many) for many in range(6)]
        book = Book(0, 1, (rows[:4], rows[4:], (method(task(0)), method(task(1)))))
        self.assertEqual(self.check(book, 0), 4)
        six = Book(0, 1, ((*rows[:4], method(task(1))), (method(*[deed(0)] * 4),)))
        self.assertEqual(len(slow_own(six, 0)), 6)
        self.assertEqual(self.check(six), 6)
        self.refuse_many(Book(0, 1, ((*rows[:4], method(task(1))), rows[4:])), "methods")
        self.refuse_many(book, "methods", 2)
        doubled = Book(0, 1, ((*rows[:2] * 2, method(task(1))), (method(task(0)), method())))
        self.refuse_many(doubled, "methods")
        self.refuse_many(Book(0, 1, ((*[method()] * 5,), (method(task(0)), method()))), "methods", 1)
        self.assertEqual(self.check(Book(0, 1, ((*[method()] * 5,), (method(task(0)),))), 1), 2)

    def refuse_many(self, book, word, which=0):
        for call, more in ((fewest, ()), (fewest_holds, ((), ())), (fewest_holds, (None, 0))):
            with self.assertRaises(TooMany) as caught:
                call(book, which, *more)
            self.assertEqual(caught.exception.word, word)

    def test_nodes_of_the_task_come_ahead_of_methods(self):
        for book in (SETS_301, ROWS_2001):
            self.assertEqual(len(slow_own(book, 0)), 6)
            self.refuse_many(book, "nodes")
        self.assertGreater(len(slow_own(MANY_ROWS_2001, 0)), 6)
        self.refuse_many(MANY_ROWS_2001, "nodes")
        self.refuse_many(MANY_ROWS_2000, "methods")

    def test_methods_come_ahead_of_nodes_of_choices(self):
        self.refuse_many(LESS_301, "nodes")
        more = Book(1, 2, (*LESS_301.tasks[:2], (*LESS_301.tasks[2], method(deed(1)))))
        self.assertGreater(len(slow_sets(without(more, ((0, 2),)), 0)[0]), 300)
        self.refuse_many(more, "methods")

    def test_as_large_as_may_be(self):
        for book, many in ((SETS_300, 6), (ROWS_2000, 0), (LESS_300, 5)):
            self.assertEqual(len(slow_own(book, 0)), 6)
            self.assertEqual(self.check(book), many)

    def test_random(self):
        sizes = {}
        for book, which in own_cases(250, 82):
            many = self.check(book, which)
            left_out = len(slow_own(book, which)) - many
            sizes[many, left_out > 0] = sizes.get((many, left_out > 0), 0) + 1
        for many, less in product(range(1, 4), (True, False)):
            self.assertGreater(sizes.get((many, less), 0), 4, sizes)


class TestFewestHolds(unittest.TestCase):
    def setUp(self):
        rows = (method(deed(0)), method(deed(0)), method(deed(1), task(1)))
        self.book = Book(1, 2, (rows, (method(when=((0, True),)), method(deed(0), task(1))), (method(),)))
        self.kept, self.proofs = fewest(self.book, 0)

    def holds(self, kept, proofs):
        told = fewest_holds(self.book, 0, kept, proofs)
        self.assertEqual(told, slow_fewest_holds(self.book, 0, kept, proofs))
        self.assertIs(told, fewest_holds(self.book, 0, as_lists(kept), as_lists(proofs)))
        self.assertIs(type(told), bool)
        return told

    def test_what_fewest_tells(self):
        self.assertEqual(self.kept, ((0, 0), (0, 2), (1, 0), (1, 1)))
        self.assertEqual(len(self.proofs), 10)
        self.assertTrue(self.holds(self.kept, self.proofs))

    def test_other_methods_as_few(self):
        self.assertTrue(self.holds(((0, 1), (0, 2), (1, 0), (1, 1)), self.proofs))

    def test_other_methods(self):
        own = slow_own(self.book, 0)
        for many in range(6):
            for kept in combinations((*own, (2, 0)), many):
                right = kept in (self.kept, ((0, 1), (0, 2), (1, 0), (1, 1)))
                self.assertIs(self.holds(kept, self.proofs), right)
                # As many pairs as there should be, for a number of methods that is not the least.
                choices = combinations(own, max(0, many - 1))
                self.assertIs(self.holds(kept, [(choice, self.proofs[0][1]) for choice in choices]), False)

    def test_order_of_methods(self):
        for kept in (self.kept[::-1], (*self.kept, self.kept[-1]), (self.kept[0], *self.kept), self.kept[1:]):
            self.assertFalse(self.holds(kept, self.proofs))

    def test_what_is_no_method(self):
        wrong = (None, 0, "", (), (0,), (0, 0, 0), (0, 3), (3, 0), (-1, 0), (0, -1), (0, True), (False, 0), ("0", 0))
        for each in (*wrong, (0, None), (BIG, 0), ((0, 0), 0)):
            self.assertFalse(self.holds((each, *self.kept[1:]), self.proofs))
            self.assertFalse(self.holds((*self.kept, each), self.proofs))
            self.assertFalse(self.holds(each, self.proofs))
        self.assertFalse(self.holds(((False, False), *self.kept[1:]), self.proofs))

    def test_pairs(self):
        proofs = self.proofs
        first, second = proofs[:2]
        for wrong in (
            proofs[1:], proofs[:-1], (*proofs, proofs[-1]), (second, first, *proofs[2:]), proofs[::-1],
            (first, first, *proofs[2:]), (second, second, *proofs[2:]), (), (first,), first, None, 0, "", True, BIG,
            (None, *proofs[1:]), ((), *proofs[1:]), ((first[0],), *proofs[1:]), ((*first, ()), *proofs[1:]),
            ((first[1], first[0]), *proofs[1:]), (first[0], *proofs[1:]),
        ):
            self.assertFalse(self.holds(self.kept, wrong), wrong)

    def test_choices_in_the_pairs(self):
        string = self.proofs[0][1]
        for wrong in (
            None, (), self.proofs[0][0][::-1], self.proofs[0][0][1:], (*self.proofs[0][0], (1, 1)), self.proofs[1][0],
            ((False, 0), *self.proofs[0][0][1:]), ((0, False), *self.proofs[0][0][1:]), (0, 0), "0",
        ):
            self.assertFalse(self.holds(self.kept, ((wrong, string), *self.proofs[1:])), wrong)
            self.assertFalse(self.holds(self.kept, (*self.proofs[:-1], (wrong, self.proofs[-1][1]))), wrong)

    def replaced(self, at, string):
        return (*self.proofs[:at], (self.proofs[at][0], string), *self.proofs[at + 1:])

    def test_strings(self):
        """The first choice is of all methods of task 0: there is no way for task 1 to come to an end."""
        self.assertEqual(self.proofs[0][0], ((0, 0), (0, 1), (0, 2)))
        yes, no = (True,), (False,)
        for many in (0, 1, 5, 39, 40, 41, 100, 1000, 5000):
            for ahead in (yes, no):
                string = ((ahead, *[no] * many, yes), (1, *[0] * many))
                self.assertTrue(self.holds(self.kept, self.replaced(0, string)))
                lost = ((ahead, *[no] * many, no), (1, *[0] * many))
                self.assertFalse(self.holds(self.kept, self.replaced(0, lost)))
        # A string that the task accepts with this choice, too.
        self.assertFalse(self.holds(self.kept, self.replaced(0, ((yes, yes), (0,)))))

    def test_what_is_no_string(self):
        yes = (True,)
        self.assertTrue(self.holds(self.kept, self.replaced(0, ((yes, yes), (1,)))))
        for wrong in (
            *(None, 0, "", (), ((), ()), (yes, ()), ((yes,), (1,)), ((yes, yes, yes), (1,)), ((yes, yes), (2,))),
            *(((yes, yes), (True,)), ((yes, (1,)), (1,)), ((yes, (1, 1)), (1,)), ((yes, ()), (1,)), ((yes, yes), 1)),
            *(((yes, yes), ("1",)), ((yes, yes), (1,), ()), ((yes, True), (1,)), (yes, (1,)), ((yes, yes), (-1,))),
            *(((yes, (True, True)), (1,)), ((yes, (None,)), (1,)), ((yes, yes), (BIG,)), ((yes, yes), ((1,),))),
        ):
            self.assertFalse(self.holds(self.kept, self.replaced(0, wrong)), wrong)

    def test_no_methods_kept(self):
        never = Book(0, 1, ((method(deed(0), task(0)),), (method(),)))
        for none in ((), []):
            self.assertIs(fewest_holds(never, 0, none, none), True)
        for wrong in (((),), (((), (((),), ())),), None, 0, "", True, (0,)):
            self.assertIs(fewest_holds(never, 0, (), wrong), False)
            self.assertIs(fewest_holds(never, 0, wrong, ()), False)
        self.assertIs(fewest_holds(never, 0, ((0, 0),), ()), False)
        self.assertIs(fewest_holds(never, 0, ((0, 0),), (((), (((),), ())),)), False)
        self.assertIs(fewest_holds(never, 0, ((1, 0),), (((), (((),), ())),)), False)
        # Something is accepted, so there has to be a method.
        self.assertIs(fewest_holds(never, 1, (), ()), False)
        self.assertIs(fewest_holds(never, 1, ((1, 0),), (((), (((),), ())),)), True)
        self.assertIs(fewest_holds(never, 1, ((1, 0),), (((), (((), ()), (0,))),)), False)

    def test_values_of_any_kind(self):
        deep = 0
        for _ in range(39):
            deep = [deep]
        for value in (None, True, 0, BIG, -BIG, "", "x" * 60000, deep, (deep, deep), [0] * 20000, [[0, 0]] * 6000):
            self.assertFalse(self.holds(value, self.proofs))
            self.assertFalse(self.holds(self.kept, value))
            self.assertFalse(self.holds(value, value))
            self.assertFalse(self.holds((value, *self.kept[1:]), self.proofs))
            self.assertFalse(self.holds(self.kept, (value, *self.proofs[1:])))
            self.assertFalse(self.holds(self.kept, self.replaced(3, value)))

    def test_spoiled(self):
        random = Random(83)
        seen = {True: 0, False: 0}
        for book, which in own_cases(60, 84, 4):
            told = fewest(book, which)
            for _ in range(12):
                change = told
                for _ in range(random.choice((1, 1, 2))):
                    change = spoiled(random, change)
                if type(change) is tuple and len(change) == 2:
                    holds = fewest_holds(book, which, *change)
                    self.assertIs(holds, slow_fewest_holds(book, which, *change), (book.tasks, which, change))
                    seen[holds] += 1
        self.assertGreater(seen[True], 20)
        self.assertGreater(seen[False], 200)

    def test_nothing_is_changed(self):
        kept, proofs = as_lists(self.kept), as_lists(self.proofs)
        fewest_holds(self.book, 0, kept, proofs)
        self.assertEqual((kept, proofs), (as_lists(self.kept), as_lists(self.proofs)))


class TestRefused(unittest.TestCase):
    CALLS = ((needless, ()), (fewest, ()), (fewest_holds, ((), ())), (fewest_holds, (None, None)))

    def refuse(self, at, book, which):
        for call, more in self.CALLS:
            with self.assertRaises(BadValue, msg=(call, book, which)) as caught:
                call(book, which, *more)
            self.assertEqual(caught.exception.at, at)

    def test_book(self):
        for wrong in (None, 0, (), "book", (0, 1, ((),)), NO_TAILS):
            self.refuse(1, wrong, 0)
            self.refuse(1, wrong, None)

    def test_task(self):
        for wrong in (2, -1, True, False, None, "0", (0,), BIG):
            self.refuse(2, Book(0, 1, ((), ())), wrong)

    def test_errors_come_ahead_of_too_many(self):
        for book in (SETS_301, LESS_301, MANY_ROWS_2001):
            self.refuse(2, book, 6)
            self.refuse(2, book, None)


class TestShortest(unittest.TestCase):
    def test_normal_machines_stay(self):
        """What is kept has the same normal machine, and no string that is told is longer than it need be."""
        for book, which in own_cases(60, 85):
            kept, proofs = fewest(book, which)
            left = without(book, [pair for pair in slow_own(book, which) if pair not in kept])
            self.assertEqual(normal(left, which), normal(book, which))
            for choice, string in proofs:
                alone = slow_alone(book, which, choice)
                self.assertEqual(len(string[1]), fewest_deeds_apart(slow_sets(book, which)[0], alone))
