"""Points [14], [43] (without) and [33]: books, books without methods, and tails."""

import unittest
from unittest import mock

from methodworlds.books import Book, is_tails, without
from methodworlds.errors import BadMethod, BadValue
from methodworlds.worlds import World
from tests.reference import as_lists, deed, is_plain, method, random_cases, task

BIG = 10 ** 300
NO_INTEGERS = (True, False, None, "1", "", (), (1,), [1])
NO_SEQUENCES = (None, True, False, 0, 1, -BIG, "", "a", "ab", "deed")

OPEN = method()
TASKS = (
    (((), ()), (((0, False),), (("deed", 0), ("task", 0)))),
    (((), (("deed", 1),)), ((), ())),
)

BAD_METHODS = (
    *NO_SEQUENCES,
    (),
    ((),),
    ((), (), ()),
    # Conditions: no sequence, no pairs, facts that are not there or not ascending, no True or False.
    (None, ()),
    ("", ()),
    ("01", ()),
    (0, ()),
    ((0,), ()),
    (("01",), ()),
    ((0, True), ()),
    (((0,),), ()),
    (((0, True, True),), ()),
    (((2, True),), ()),
    (((-1, True),), ()),
    (((BIG, True),), ()),
    (((True, True),), ()),
    (((None, True),), ()),
    ((("0", True),), ()),
    (((0, 1),), ()),
    (((0, 0),), ()),
    (((0, None),), ()),
    (((0, "True"),), ()),
    (((0, ()),), ()),
    (((0, True), (0, True)), ()),
    (((0, True), (0, False)), ()),
    (((1, True), (0, True)), ()),
    (((0, True), None), ()),
    # Steps: no sequence, too many, no pairs, words and numbers that are not there.
    ((), None),
    ((), "deed"),
    ((), ""),
    ((), 0),
    ((), deed(0)),
    ((), (deed(0),) * 6),
    ((), ("deed",)),
    ((), ("d0",)),
    ((), (("deed",),)),
    ((), (("deed", 0, 0),)),
    ((), (None,)),
    ((), ((),)),
    ((), (deed(3),)),
    ((), (deed(-1),)),
    ((), (deed(True),)),
    ((), (deed(None),)),
    ((), (deed("0"),)),
    ((), (deed((0,)),)),
    ((), (deed(BIG),)),
    ((), (task(2),)),
    ((), (task(-1),)),
    ((), (task(False),)),
    ((), (("deeds", 0),)),
    ((), (("Deed", 0),)),
    ((), (("", 0),)),
    ((), ((0, 0),)),
    ((), ((None, 0),)),
    ((), ((True, 0),)),
    ((), ((("deed",), 0),)),
    ((), ((0, "deed"),)),
    ((), (deed(0), deed(0), deed(3))),
)


class TestBook(unittest.TestCase):
    def refuse_value(self, at, *arguments):
        with self.assertRaises(BadValue, msg=arguments) as caught:
            Book(*arguments)
        self.assertEqual(caught.exception.at, at, arguments)

    def refuse_method(self, which, number, *arguments):
        with self.assertRaises(BadMethod, msg=arguments) as caught:
            Book(*arguments)
        self.assertEqual((caught.exception.task, caught.exception.method), (which, number), arguments)

    def test_ordinary(self):
        for book in (Book(1, 2, TASKS), Book(facts=1, deeds=2, tasks=TASKS), Book(tasks=TASKS, deeds=2, facts=1)):
            self.assertEqual(book.facts, 1)
            self.assertEqual(book.deeds, 2)
            self.assertEqual(book.tasks, TASKS)
            self.assertTrue(is_plain(book.tasks))

    def test_limits_are_allowed(self):
        for facts in range(5):
            self.assertEqual(Book(facts, 1, ((OPEN,),)).facts, facts)
        for deeds in range(1, 6):
            self.assertEqual(Book(0, deeds, ((OPEN,),)).deeds, deeds)
        for many in range(1, 7):
            self.assertEqual(len(Book(0, 1, ((OPEN,),) * many).tasks), many)
        for many in range(6):
            self.assertEqual(len(Book(0, 1, ((OPEN,) * many,)).tasks[0]), many)
            self.assertEqual(len(Book(0, 1, ((method(*[deed(0)] * many),),)).tasks[0][0][1]), many)
        full = tuple((fact, fact != 2) for fact in range(4))
        self.assertEqual(Book(4, 1, ((method(when=full),),)).tasks[0][0][0], full)

    def test_no_methods_and_equal_methods(self):
        self.assertEqual(Book(0, 1, ((),)).tasks, ((),))
        self.assertEqual(Book(0, 1, ([], ())).tasks, ((), ()))
        self.assertEqual(Book(0, 1, ((OPEN, OPEN),)).tasks, ((OPEN, OPEN),))

    def test_last_numbers_are_allowed(self):
        steps = (deed(4), task(2), deed(0), task(0), task(1))
        self.assertEqual(Book(0, 5, ((method(*steps),), (), ())).tasks[0][0][1], steps)

    def test_facts(self):
        for facts in (*NO_INTEGERS, -1, 5, BIG, -BIG):
            self.refuse_value(1, facts, 1, ((),))

    def test_deeds(self):
        for deeds in (*NO_INTEGERS, 0, -1, 6, BIG, -BIG):
            self.refuse_value(2, 0, deeds, ((),))

    def test_tasks(self):
        for tasks in (*NO_SEQUENCES, (), [], ((),) * 7, ((OPEN,) * 6,), ((), (OPEN,) * 6), ([OPEN] * 7, ())):
            self.refuse_value(3, 0, 1, tasks)
        for wrong in NO_SEQUENCES:
            self.refuse_value(3, 0, 1, (wrong,))
            self.refuse_value(3, 0, 1, [(OPEN,), (), wrong])

    def test_order_of_values(self):
        self.refuse_value(1, 5, 0, ())
        self.refuse_value(1, 5, 1, ((None,),))
        self.refuse_value(1, None, None, None)
        self.refuse_value(2, 0, 0, ())
        self.refuse_value(2, 0, None, ((None,),))
        self.refuse_value(3, 0, 1, ((None,), None))
        self.refuse_value(3, 0, 1, ((None,), (OPEN,) * 6))

    def test_bad_methods(self):
        for wrong in BAD_METHODS:
            self.refuse_method(0, 0, 2, 3, ((wrong,), ()))
            self.refuse_method(1, 2, 2, 3, ([OPEN], [OPEN, OPEN, wrong]))
            self.refuse_method(0, 1, 2, 3, ((OPEN, as_lists(wrong), wrong), (wrong,)))

    def test_first_bad_method(self):
        self.refuse_method(0, 4, 0, 1, ((OPEN,) * 4 + (None,), (None,)))
        self.refuse_method(5, 4, 0, 1, ((OPEN,) * 5,) * 5 + ((OPEN,) * 4 + (None,),))
        self.refuse_method(1, 0, 0, 1, ((OPEN,), (None, None)))

    def test_numbers_go_by_this_book(self):
        self.refuse_method(0, 0, 0, 1, ((method(when=((0, True),)),),))
        self.refuse_method(0, 0, 4, 1, ((method(when=((4, True),)),),))
        self.refuse_method(0, 0, 0, 4, ((method(deed(4)),),))
        self.refuse_method(0, 0, 0, 5, ((method(deed(5)),),))
        self.refuse_method(0, 0, 0, 1, ((method(task(1)),),))
        self.refuse_method(0, 0, 0, 1, ((method(task(6)),), (), (), (), (), ()))
        Book(4, 5, ((method(deed(4), task(5), when=((3, False),)),), (), (), (), (), ()))

    def test_lists_are_as_tuples(self):
        book = Book(1, 2, as_lists(TASKS))
        self.assertEqual(book, Book(1, 2, TASKS))
        self.assertTrue(is_plain(book.tasks))
        self.assertEqual(Book(1, 2, list(TASKS)).tasks, TASKS)

    def test_later_changes(self):
        tasks = as_lists(TASKS)
        book = Book(1, 2, tasks)
        tasks[0][1][0][0][1] = True
        tasks[0][1][1][0][1] = 1
        tasks[0][1][1].append(["deed", 1])
        tasks[1].pop()
        tasks.append([])
        self.assertEqual(book.tasks, TASKS)

    def test_arguments_stay_as_they_are(self):
        tasks = as_lists(TASKS)
        Book(1, 2, tasks)
        self.assertEqual(tasks, as_lists(TASKS))

    def test_equality(self):
        book = Book(1, 2, TASKS)
        self.assertTrue(book == Book(1, 2, TASKS))
        self.assertFalse(book != Book(1, 2, TASKS))
        others = (Book(2, 2, TASKS), Book(1, 3, TASKS), Book(1, 2, TASKS[:1]), Book(1, 2, (TASKS[1], TASKS[0])))
        for other in (*others, Book(1, 2, (TASKS[0][::-1], TASKS[1])), World(1, ((True,),), ((0, 0),))):
            self.assertFalse(book == other)
            self.assertTrue(book != other)
        for other in (None, 1, True, "book", TASKS, (1, 2, TASKS), [], mock.ANY):
            self.assertFalse(book == other)
            self.assertTrue(book != other)


class TestWithout(unittest.TestCase):
    def setUp(self):
        rows = (method(deed(0)), method(deed(1), task(1), when=((0, True),)), method(), method(deed(0)))
        self.rows = rows
        self.book = Book(1, 2, (rows, (), rows[:2]))

    def test_nothing(self):
        for none in ((), []):
            self.assertEqual(without(self.book, none), self.book)

    def test_some(self):
        rows = self.rows
        self.assertEqual(without(self.book, ((0, 1),)).tasks, ((rows[0], rows[2], rows[3]), (), rows[:2]))
        self.assertEqual(without(self.book, [[0, 0]]).tasks, (rows[1:], (), rows[:2]))
        self.assertEqual(without(self.book, ((0, 0), (0, 3), (2, 0))).tasks, (rows[1:3], (), rows[1:2]))
        self.assertEqual(without(self.book, [(2, 0), [2, 1]]).tasks, (rows, (), ()))
        every = [(0, 0), (0, 1), (0, 2), (0, 3), (2, 0), (2, 1)]
        self.assertEqual(without(book=self.book, methods=every), Book(1, 2, ((), (), ())))

    def test_the_book_stays(self):
        before = Book(1, 2, self.book.tasks)
        gone = [[0, 1]]
        left = without(self.book, gone)
        gone[0][1] = 0
        self.assertEqual(self.book, before)
        self.assertEqual((left.facts, left.deeds), (1, 2))
        self.assertEqual(left.tasks[0][0], self.rows[0])
        self.assertTrue(is_plain(left.tasks))

    def test_equal_methods_go_by_their_numbers(self):
        book = Book(0, 2, ((method(), method(deed(1)), method()),))
        self.assertEqual(without(book, ((0, 2),)).tasks, ((method(), method(deed(1))),))
        self.assertEqual(without(book, ((0, 0),)).tasks, ((method(deed(1)), method()),))

    def refuse(self, at, *arguments):
        with self.assertRaises(BadValue, msg=arguments) as caught:
            without(*arguments)
        self.assertEqual(caught.exception.at, at, arguments)

    def test_refusals(self):
        for wrong in (None, 0, "book", (), TASKS, World(0, ((),), ((0,),))):
            self.refuse(1, wrong, ())
            self.refuse(1, wrong, None)
        bad_pairs = (None, 0, True, "", "00", (), (0,), (0, 0, 0), (0, 4), (1, 0), (2, 2), (3, 0), (-1, 0), (0, -1))
        bad_pairs += ((0, True), (True, 0), (False, 0), (0, False), ("0", 0), (0, None), (BIG, 0), (0, BIG), ((0, 0),))
        for wrong in bad_pairs:
            self.refuse(2, self.book, (wrong,))
            self.refuse(2, self.book, [[0, 0], wrong])
        rows = (((0, 0), (0, 0)), ((0, 1), (0, 0)), ((2, 0), (0, 1)), ((0, 0), (2, 1), (2, 0)), [[0, 1], [0, 1]])
        for wrong in (*NO_SEQUENCES, (0, 0), *rows):
            self.refuse(2, self.book, wrong)


class TestTails(unittest.TestCase):
    def check(self, wanted, *tasks):
        book = Book(0, 2, tasks)
        self.assertIs(is_tails(book), wanted, tasks)
        self.assertIs(is_tails(book=book), wanted, tasks)

    def test_no_tasks_come_back(self):
        self.check(True, ())
        self.check(True, (method(),))
        self.check(True, (method(deed(0), deed(1)),))
        self.check(True, (method(task(1), task(2), task(1), task(1)),), (method(task(2), task(2)),), (method(),))

    def test_back_at_the_end(self):
        self.check(True, (method(task(0)),))
        self.check(True, (method(deed(0), task(0)), method(deed(1), deed(0), task(0))))
        self.check(True, (method(task(1), task(0)),), (method(deed(0)),))

    def test_back_ahead_of_the_end(self):
        self.check(False, (method(task(0), deed(0)),))
        self.check(False, (method(deed(0), task(0), deed(0)),))
        self.check(False, (method(task(0), task(0)),))
        self.check(False, (method(), method(deed(0)), method(deed(0), deed(1), deed(0), task(0), deed(0))))
        self.check(False, (), (method(task(1), task(0)),))

    def test_back_by_other_tasks(self):
        self.check(True, (method(deed(0), task(1)),), (method(deed(1), task(0)),))
        self.check(True, (method(task(1)),), (method(task(2)),), (method(task(0)),))
        self.check(False, (method(task(1), deed(0)),), (method(task(0)),))
        self.check(False, (method(task(1)),), (method(task(0), deed(0)),))
        self.check(False, (method(task(1)),), (method(task(2)),), (method(task(0), task(0)),))
        self.check(False, (method(task(1), deed(0)),), (method(task(2)),), (method(deed(1), task(0)),))

    def test_back_by_a_long_way(self):
        line = [(method(task(number + 1)),) for number in range(5)]
        self.check(True, *line, (method(task(0)),))
        self.check(False, *line, (method(task(0), deed(0)),))
        self.check(False, (method(task(5), deed(0)),), *[(method(task(number)),) for number in range(5)])

    def test_leads_only_one_way(self):
        self.check(True, (method(task(1), deed(0)),), (method(deed(0), task(1)),))
        self.check(True, (method(task(1), task(0)),), (method(deed(0), task(1)),))
        self.check(False, (method(task(1)),), (method(task(1), deed(0)),))

    def test_conditions_do_not_matter(self):
        never = ((0, True),)
        self.assertIs(is_tails(Book(1, 1, ((method(task(0), deed(0), when=never),),))), False)

    def test_a_task_without_methods_leads_nowhere(self):
        self.check(True, (method(task(1), task(0)),), ())

    def test_against_walks(self):
        seen = {True: 0, False: 0}
        for book, _ in random_cases(400, 5):
            wanted = self.by_walks(book)
            seen[wanted] += 1
            self.assertIs(is_tails(book), wanted, book.tasks)
        self.assertGreater(min(seen.values()), 40)

    def by_walks(self, book):
        def led(which, known):
            for _, steps in book.tasks[which]:
                for word, number in steps:
                    if word == "task" and number not in known:
                        known.add(number)
                        led(number, known)
            return known

        for which, methods in enumerate(book.tasks):
            for _, steps in methods:
                for word, number in steps[:-1]:
                    if word == "task" and (number == which or which in led(number, set())):
                        return False
        return True

    def test_refusals(self):
        for wrong in (None, 0, "book", (), TASKS, World(0, ((),), ((0,),))):
            with self.assertRaises(BadValue) as caught:
                is_tails(wrong)
            self.assertEqual(caught.exception.at, 1)
