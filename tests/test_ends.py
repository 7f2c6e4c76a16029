"""Points [1], [19], [23] and [25]: the states in which a task can end."""

import unittest

from methodworlds.books import Book
from methodworlds.doing import ends
from methodworlds.worlds import World, facts_world
from tests.reference import deed, every_pair, is_plain, method, random_cases, slow_courses, slow_ends, task

# Deed 0 goes along a line of four states, deed 1 goes back to state 0, from all but the last one.
LINE = World(1, ((False,), (False,), (True,), (False,)), ((1, 0), (2, 0), (3, 0), (None, None)))


def line_ends(*tasks):
    """The ends of task 0 from each state of the line."""
    book = Book(1, 2, tasks)
    return [ends(book, LINE, 0, state) for state in range(4)]


class TestEnds(unittest.TestCase):
    def test_the_example(self):
        book = Book(1, 2, ((((), ()), (((0, False),), (deed(0), task(0)))), (((), (deed(0),)), ((), ()))))
        world = World(1, ((False,), (True,)), ((1, None), (None, 0)))
        self.assertEqual(ends(book, world, 0, 0), (0, 1))
        self.assertEqual(ends(book=book, world=world, task=0, state=1), (1,))
        self.assertEqual(ends(book, world, 1, 0), (0, 1))
        self.assertEqual(ends(book, world, 1, 1), (1,))

    def test_no_methods(self):
        self.assertEqual(line_ends(()), [()] * 4)

    def test_no_steps(self):
        self.assertEqual(line_ends((method(),)), [(0,), (1,), (2,), (3,)])

    def test_deeds(self):
        self.assertEqual(line_ends((method(deed(0)),)), [(1,), (2,), (3,), ()])
        self.assertEqual(line_ends((method(deed(1)),)), [(0,), (0,), (0,), ()])
        self.assertEqual(line_ends((method(deed(0), deed(0)),)), [(2,), (3,), (), ()])
        self.assertEqual(line_ends((method(deed(0), deed(1)),)), [(0,), (0,), (), ()])
        self.assertEqual(line_ends((method(*[deed(0)] * 3, deed(0), deed(1)),)), [()] * 4)

    def test_conditions(self):
        holds, fails = ((0, True),), ((0, False),)
        self.assertEqual(line_ends((method(when=holds),)), [(), (), (2,), ()])
        self.assertEqual(line_ends((method(when=fails),)), [(0,), (1,), (), (3,)])
        self.assertEqual(line_ends((method(deed(0), when=holds), method(deed(1), when=fails))), [(0,), (0,), (3,), ()])

    def test_a_condition_is_asked_where_the_task_begins(self):
        begun = (method(deed(0), task(1), deed(0)),), (method(when=((0, True),)),)
        self.assertEqual(line_ends(*begun), [(), (3,), (), ()])

    def test_each_fact_of_a_condition_counts(self):
        world = facts_world(2, (((), (), ()),))
        book = Book(2, 1, ((method(when=((0, True), (1, False))),),))
        self.assertEqual([ends(book, world, 0, state) for state in range(4)], [(), (1,), (), ()])

    def test_several_methods(self):
        book = (method(deed(1)), method(), method(deed(0)), method())
        self.assertEqual(line_ends(book), [(0, 1), (0, 1, 2), (0, 2, 3), (3,)])

    def test_tasks_among_the_steps(self):
        tasks = (method(task(1), task(1)),), (method(), method(deed(0)))
        self.assertEqual(line_ends(*tasks), [(0, 1, 2), (1, 2, 3), (2, 3), (3,)])

    def test_nothing_comes_to_an_end(self):
        never = [()] * 4
        self.assertEqual(line_ends((method(task(0)),)), never)
        self.assertEqual(line_ends((method(deed(1), task(0)),)), never)
        self.assertEqual(line_ends((method(task(0), deed(0)),)), never)
        self.assertEqual(line_ends((method(task(0), task(0)),)), never)
        self.assertEqual(line_ends((method(task(1)),), (method(task(0)),)), never)
        self.assertEqual(line_ends((method(deed(0), task(1)),), ()), never)
        self.assertEqual(line_ends((method(task(1), deed(0)),), ()), never)

    def test_back_in_its_own_method_at_any_step(self):
        onward = [(0, 1, 2, 3), (1, 2, 3), (2, 3), (3,)]
        self.assertEqual(line_ends((method(), method(deed(0), task(0)))), onward)
        self.assertEqual(line_ends((method(), method(task(0), deed(0)))), onward)
        self.assertEqual(line_ends((method(), method(deed(0)), method(task(0), task(0)))), onward)
        self.assertEqual(line_ends((method(), method(deed(0), task(0), deed(0)))), [(0, 2), (1, 3), (2,), (3,)])
        self.assertEqual(line_ends((method(deed(1)), method(deed(0), task(0), deed(0)))), [(0, 1, 2), (0, 1), (0,), ()])

    def test_back_by_way_of_other_tasks(self):
        tasks = (method(task(1)), method(when=((0, True),))), (method(deed(0), task(0)),)
        self.assertEqual(line_ends(*tasks), [(2,), (2,), (2,), ()])

    def test_an_end_that_needs_many_rounds(self):
        many = 16
        world = World(0, ((),) * many, tuple((state + 1 if state < 15 else None,) for state in range(many)))
        tasks = [(method(task(number + 1), task(number + 1)),) for number in range(3)] + [(method(deed(0)),)]
        self.assertEqual(ends(Book(0, 1, tasks), world, 0, 0), (8,))
        self.assertEqual(ends(Book(0, 1, tasks), world, 0, 7), (15,))
        self.assertEqual(ends(Book(0, 1, tasks), world, 0, 8), ())
        left = (method(), method(task(0), deed(0)))
        self.assertEqual(ends(Book(0, 1, (left,)), world, 0, 0), tuple(range(many)))

    def test_as_many_deeds_back_as_forth(self):
        up_and_down = World(0, ((),) * 8, ((1, None), (2, 0), (3, 1), (4, 2), (5, 3), (6, 4), (7, 5), (None, 6)))
        book = Book(0, 2, ((method(), method(deed(0), task(0), deed(1))),))
        self.assertEqual([ends(book, up_and_down, 0, state) for state in range(8)], [(state,) for state in range(8)])

    def test_no_facts_and_one_state(self):
        world = World(0, ((),), ((0,),))
        self.assertEqual(ends(Book(0, 1, ((method(deed(0)),),)), world, 0, 0), (0,))

    def test_random(self):
        for book, world in random_cases(300, 1):
            known = slow_ends(book, world)
            for which, state in every_pair(book, world):
                told = ends(book, world, which, state)
                self.assertEqual(told, tuple(sorted(known[which, state])), (book.tasks, world.moves))
                self.assertTrue(is_plain(told))

    def test_courses_end_there(self):
        for book, world in random_cases(60, 2, 3, 4):
            for pair, rows in slow_courses(book, world, 3).items():
                self.assertLessEqual({end for _, end in rows}, set(ends(book, world, *pair)))

    def test_a_full_book(self):
        moves = tuple(((state + 1) % 16, *[(state * number) % 15 for number in range(4)]) for state in range(16))
        world = World(0, ((),) * 16, moves)
        steps = [tuple(task((number + at) % 6) for at in range(5)) for number in range(6)]
        ones = (method(), method(deed(0)))
        tasks = [(*ones, method(*row), method(*row[::-1]), method(deed(3), *row[:4])) for row in steps]
        self.assertEqual(ends(Book(0, 5, tasks), world, 0, 0), tuple(range(16)))
