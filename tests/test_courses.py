"""Points [19], [24] and [35]: the courses with which a task can be done."""

import unittest
from itertools import product

from methodworlds.books import Book
from methodworlds.doing import courses
from methodworlds.worlds import World
from tests.reference import deed, every_pair, is_plain, method, random_cases, slow_courses, task

# One state in which both deeds can always be done.
FREE = World(0, ((),), ((0, 0),))


def free_courses(most, *tasks):
    """The courses of task 0 where all deeds can be done."""
    return courses(Book(0, 2, tasks), FREE, 0, 0, most)


class TestCourses(unittest.TestCase):
    def test_the_example(self):
        book = Book(1, 2, ((((), ()), (((0, False),), (deed(0), task(0)))), (((), (deed(0),)), ((), ()))))
        world = World(1, ((False,), (True,)), ((1, None), (None, 0)))
        self.assertEqual(courses(book, world, 0, 0, 5), ((), (0,)))
        self.assertEqual(courses(book=book, world=world, task=1, state=1, most=5), ((),))

    def test_no_methods(self):
        self.assertEqual(free_courses(5, ()), ())

    def test_no_steps(self):
        for most in range(6):
            self.assertEqual(free_courses(most, (method(),)), ((),))

    def test_shorter_ones_first_then_ascending(self):
        tasks = (method(deed(1)), method(deed(0), deed(1)), method(), method(deed(0)), method(deed(0), deed(0)))
        self.assertEqual(free_courses(5, tasks), ((), (0,), (1,), (0, 0), (0, 1)))
        rows = free_courses(5, (method(), method(deed(1), task(0)), method(deed(0), task(0))))
        self.assertEqual(rows, tuple(row for many in range(6) for row in product(range(2), repeat=many)))

    def test_each_bound(self):
        tasks = (method(), method(deed(1), task(0), deed(0)), method(deed(0)))
        rows = ((), (0,), (1, 0), (1, 0, 0), (1, 1, 0, 0), (1, 1, 0, 0, 0))
        for most in range(6):
            self.assertEqual(free_courses(most, tasks), rows[:most + 1])
        for many in range(6):
            for most in range(6):
                rows = ((0,) * many,) if many <= most else ()
                self.assertEqual(free_courses(most, (method(*[deed(0)] * many),)), rows)

    def test_more_deeds_than_the_bound(self):
        self.assertEqual(free_courses(5, (method(task(1), deed(0)),), (method(*[deed(1)] * 5),)), ())
        self.assertEqual(free_courses(5, (method(task(1)),), (method(*[deed(1)] * 5),)), ((1,) * 5,))

    def test_two_ways_with_one_course(self):
        self.assertEqual(free_courses(5, (method(deed(0)), method(deed(0)), method(task(0)))), ((0,),))
        self.assertEqual(free_courses(5, (method(task(1), task(1)),), (method(), method(deed(0)))), ((), (0,), (0, 0)))

    def test_going_on_without_deeds(self):
        ones = ((), (0,), (0, 0), (0, 0, 0), (0, 0, 0, 0), (0, 0, 0, 0, 0))
        self.assertEqual(free_courses(5, (method(task(0)), method(task(0), task(0)), method())), ((),))
        self.assertEqual(free_courses(5, (method(task(0), task(0)), method(), method(deed(0)))), ones)
        self.assertEqual(free_courses(5, (method(task(0), task(0)), method(deed(0)))), ones[1:])
        self.assertEqual(free_courses(5, (method(task(0)), method(task(0), deed(0)))), ())
        self.assertEqual(free_courses(5, (method(task(1), task(0), task(1)), method(deed(0))), (method(),)), ((0,),))

    def test_tasks_that_do_nothing_where_they_stand(self):
        """Ahead of what is done, behind it, and on both sides, also where a condition asks for the state."""
        world = World(1, ((False,), (True,)), ((1, 0), (0, 0)))
        holds, fails = method(when=((0, True),)), method(when=((0, False),))
        for steps, wanted in (
            ((task(1), deed(0), task(2)), ((0,),)),
            ((task(2), deed(0), task(1)), ()),
            ((task(1), task(3), task(2)), ((0,),)),
            ((task(1), task(3), task(1)), ()),
            ((task(3), task(2), task(3), task(1)), ((0, 0),)),
        ):
            book = Book(1, 2, ((method(*steps),), (fails,), (holds,), (method(deed(0)),)))
            self.assertEqual(courses(book, world, 0, 0, 5), wanted, steps)

    def test_deeds_that_cannot_be_done(self):
        world = World(0, ((), ()), ((1, None), (None, 0)))
        book = Book(0, 2, ((method(), method(deed(0), task(0)), method(deed(1), task(0))),))
        self.assertEqual(courses(book, world, 0, 0, 3), ((), (0,), (0, 1), (0, 1, 0)))
        self.assertEqual(courses(book, world, 0, 1, 3), ((), (1,), (1, 0), (1, 0, 1)))

    def test_all_steps_must_be_done(self):
        self.assertEqual(free_courses(5, (method(deed(0), task(1)),), ()), ())
        self.assertEqual(free_courses(5, (method(task(1), deed(0)),), ()), ())

    def test_random(self):
        for book, world in random_cases(120, 3, 4, 4):
            known = slow_courses(book, world, 4)
            for (which, state), most in product(every_pair(book, world), range(5)):
                rows = {row for row, _ in known[which, state] if len(row) <= most}
                told = courses(book, world, which, state, most)
                in_order = tuple(sorted(rows, key=lambda row: (len(row), row)))
                self.assertEqual(told, in_order, (book.tasks, world.moves))
                self.assertTrue(is_plain(told))

    def test_random_with_five_deeds(self):
        for book, world in random_cases(40, 4, 4, 4):
            known = slow_courses(book, world, 5)
            for pair in every_pair(book, world):
                self.assertEqual(set(courses(book, world, *pair, 5)), {row for row, _ in known[pair]})

    def test_a_full_book(self):
        world = World(0, ((),) * 16, tuple(tuple((state * 5 + deed) % 16 for deed in range(5)) for state in range(16)))
        steps = [tuple(task((number + at) % 6) for at in range(5)) for number in range(6)]
        ones = (method(), method(deed(0)), method(task(0), deed(4)))
        tasks = [(*ones, method(*row), method(deed(1), *row[:4])) for row in steps]
        tasks[5] = (*tasks[5][:3], method(deed(2)), method(deed(3)))
        rows = courses(Book(0, 5, tasks), world, 0, 0, 5)
        self.assertEqual(rows, tuple(row for many in range(6) for row in product(range(5), repeat=many)))
