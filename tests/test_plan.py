"""Points [2], [20], [26] to [29]: a way with the fewest deeds, or the least table."""

import unittest

from methodworlds.books import Book
from methodworlds.doing import ends, plan
from methodworlds.worlds import World
from tests.reference import (
    as_lists, deed, every_pair, every_table, is_closed, is_plain, least_table, method, part_deeds, random_cases,
    slow_deeds, some_sets, task,
)

LINE = World(1, ((False,), (False,), (True,), (False,)), ((1, 0), (2, 0), (3, 0), (None, None)))


class TestWays(unittest.TestCase):
    def way(self, book, world, which, state, wanted):
        """The deeds of the last part of the way, whose parts are checked."""
        word, proof = plan(book, world, which, state, wanted)
        self.assertEqual(word, "way")
        self.assertTrue(is_plain(proof))
        counts = part_deeds(book, world, proof)
        self.assertEqual(proof[-1][:2], (which, state))
        self.assertIn(proof[-1][2], wanted)
        self.assertEqual(len({part[:3] for part in proof}), len(proof))
        # No part stands there that the last one does not need.
        named = {place for part in proof for place in part[4]}
        self.assertEqual(named, set(range(len(proof) - 1)))
        return counts[-1]

    def test_the_example(self):
        book = Book(1, 2, ((((), ()), (((0, False),), (deed(0), task(0)))), (((), (deed(0),)), ((), ()))))
        world = World(1, ((False,), (True,)), ((1, None), (None, 0)))
        self.assertEqual(plan(book, world, 0, 0, (1,)), ("way", ((0, 1, 1, 0, ()), (0, 0, 1, 1, (0,)))))
        self.assertEqual(plan(book=book, world=world, task=0, state=0, wanted=[1]), plan(book, world, 0, 0, (1,)))
        self.assertIs(type(plan(book, world, 0, 0, (1,))), tuple)

    def test_no_deeds_at_all(self):
        book = Book(1, 2, ((method(deed(1)), method(task(1))), (method(),)))
        self.assertEqual(plan(book, LINE, 0, 0, (0,)), ("way", ((1, 0, 0, 0, ()), (0, 0, 0, 1, (0,)))))

    def test_fewest_deeds_not_fewest_methods(self):
        tasks = (method(deed(0), deed(1), deed(0), deed(0)), method(task(1))), (method(task(2)),), (method(task(3)),)
        book = Book(1, 2, (*tasks, (method(deed(0), task(4)),), (method(deed(0)),)))
        self.assertEqual(self.way(book, LINE, 0, 0, (2,)), 2)

    def test_fewest_deeds_of_all_wanted_ends(self):
        book = Book(1, 2, ((method(), method(deed(0), task(0))),))
        self.assertEqual(self.way(book, LINE, 0, 0, (2, 3)), 2)
        self.assertEqual(self.way(book, LINE, 0, 0, (3,)), 3)
        self.assertEqual(self.way(book, LINE, 0, 0, (0, 1, 2, 3)), 0)
        book = Book(1, 2, ((method(deed(0), deed(0), deed(1)), method(deed(0), deed(0))),))
        self.assertEqual(self.way(book, LINE, 0, 0, (0, 2)), 2)

    def test_a_dear_part_may_go_with_a_cheap_one(self):
        """What is cheap for the first step leads to a state from which the second step is dear."""
        world = World(0, ((),) * 5, ((1, 2), (3, None), (4, None), (4, None), (4, 4)))
        dear = (method(deed(0), *[deed(1)] * 4), method(deed(0), deed(0)))
        book = Book(0, 2, ((method(task(1), task(2)),), (method(deed(0)), method(deed(1))), dear))
        self.assertEqual(self.way(book, world, 0, 0, (4,)), 3)

    def test_parts_are_shared(self):
        tasks = [(method(task(number + 1), task(number + 1)),) for number in range(5)] + [(method(),)]
        proof = plan(Book(1, 2, tasks), LINE, 0, 0, (0,))[1]
        self.assertEqual(len(proof), 6)
        self.assertEqual([part[0] for part in proof], [5, 4, 3, 2, 1, 0])

    def test_many_deeds(self):
        world = World(0, ((), ()), ((1,), (0,)))
        tasks = [(method(*[task(number + 1)] * 5),) for number in range(5)] + [(method(*[deed(0)] * 5),)]
        self.assertEqual(self.way(Book(0, 1, tasks), world, 0, 0, (0, 1)), 5 ** 6)

    def test_back_in_its_own_methods(self):
        left = Book(1, 2, ((method(), method(task(0), deed(0))),))
        self.assertEqual(self.way(left, LINE, 0, 0, (3,)), 3)
        middle = Book(1, 2, ((method(deed(0)), method(task(0), task(0)), method(task(0))),))
        self.assertEqual(self.way(middle, LINE, 0, 0, (3,)), 3)
        self.assertEqual(self.way(middle, LINE, 0, 1, (2, 3)), 1)

    def test_only_parts_that_are_needed(self):
        book = Book(1, 2, ((method(task(1), deed(0)), method(task(2), deed(0))), (method(deed(1)),), (method(),)))
        self.assertEqual(plan(book, LINE, 0, 0, (1,))[1], ((2, 0, 0, 0, ()), (0, 0, 1, 1, (0,))))
        self.assertEqual(self.way(book, LINE, 0, 0, (1,)), 1)

    def test_random(self):
        ways = 0
        for book, world in random_cases(150, 6):
            known = slow_deeds(book, world)
            for which, state in every_pair(book, world):
                for wanted in some_sets(range(len(world)))[:12]:
                    costs = [known[which, state, end] for end in wanted if (which, state, end) in known]
                    if costs:
                        self.assertEqual(self.way(book, world, which, state, wanted), min(costs))
                        ways += 1
                    else:
                        self.assertEqual(plan(book, world, which, state, wanted)[0], "table")
        self.assertGreater(ways, 1000)

    def test_each_end_has_a_way(self):
        for book, world in random_cases(100, 7, 6, 8):
            for which, state in every_pair(book, world):
                for end in ends(book, world, which, state):
                    self.way(book, world, which, state, (end,))


class TestTables(unittest.TestCase):
    def table(self, *arguments):
        word, table = plan(*arguments)
        self.assertEqual(word, "table")
        self.assertTrue(is_plain(table))
        return table

    def test_no_methods(self):
        book = Book(1, 2, ((),))
        self.assertEqual(plan(book, LINE, 0, 2, (0, 1, 2, 3)), ("table", ((0, 2, ()),)))
        self.assertEqual(plan(book, LINE, 0, 2, ()), ("table", ((0, 2, ()),)))
        self.assertIs(type(plan(book, LINE, 0, 2, ())), tuple)

    def test_nothing_wanted(self):
        book = Book(1, 2, ((method(), method(deed(0), task(0))),))
        told = ((0, 0, (0, 1, 2, 3)), (0, 1, (1, 2, 3)), (0, 2, (2, 3)), (0, 3, (3,)))
        for none in ((), []):
            self.assertEqual(self.table(book, LINE, 0, 0, none), told)
            self.assertEqual(self.table(book, LINE, 0, 2, none), told[2:])
        self.assertEqual(self.table(book, LINE, 0, 2, (0, 1)), told[2:])

    def test_only_what_is_come_to(self):
        tasks = (method(deed(0), task(2)), method(task(1), when=((0, True),))), (method(),), (method(deed(0)),)
        self.assertEqual(self.table(Book(1, 2, tasks), LINE, 0, 0, (0,)), ((0, 0, (2,)), (2, 1, (2,))))
        self.assertEqual(self.table(Book(1, 2, tasks), LINE, 0, 2, ()), ((0, 2, (2,)), (1, 2, (2,)), (2, 3, ())))

    def test_what_is_come_to_on_ways_that_break_off(self):
        tasks = (method(task(1), deed(0), task(2), deed(1), task(3)),), (method(deed(0)),), (method(deed(0)),), ()
        told = ((0, 0, ()), (1, 0, (1,)), (2, 2, (3,)))
        self.assertEqual(self.table(Book(1, 2, tasks), LINE, 0, 0, (0, 1, 2, 3)), told)
        never = (method(task(1), task(2)),), (method(task(1)),), (method(),)
        self.assertEqual(self.table(Book(1, 2, never), LINE, 0, 1, (1,)), ((0, 1, ()), (1, 1, ())))

    def test_ascending_by_task_and_state(self):
        tasks = (method(task(2), deed(0), task(1), task(0)),), (method(),), (method(), method(deed(0)))
        table = self.table(Book(1, 2, tasks), LINE, 0, 0, (0,))
        self.assertEqual([row[:2] for row in table], sorted(row[:2] for row in table))
        self.assertEqual(table[0], (0, 0, ()))
        self.assertEqual({row[0] for row in table}, {0, 1, 2})

    def test_random(self):
        for book, world in random_cases(150, 8):
            for which, state in every_pair(book, world):
                wanted = [end for end in range(len(world)) if end not in ends(book, world, which, state)]
                told = least_table(book, world, which, state)
                self.assertEqual(self.table(book, world, which, state, wanted), told, (book.tasks, world.moves))
                self.assertEqual(self.table(book, world, which, state, ()), told)
                self.assertTrue(is_closed(book, world, told))

    def test_least_of_all_tables(self):
        """For very small worlds, all tables there are."""
        many = 0
        for book, world in random_cases(60, 9, 2, 2):
            closed = [table for table in every_table(book, world) if is_closed(book, world, table)]
            for which, state in every_pair(book, world):
                least = {row[:2]: set(row[2]) for row in self.table(book, world, which, state, ())}
                self.assertIn(tuple((*pair, tuple(sorted(least[pair]))) for pair in sorted(least)), closed)
                for table in closed:
                    rows = {row[:2]: set(row[2]) for row in table}
                    if (which, state) in rows:
                        many += 1
                        self.assertTrue(all(pair in rows and least[pair] <= rows[pair] for pair in least))
        self.assertGreater(many, 500)


class TestBoth(unittest.TestCase):
    def test_just_one_of_two(self):
        for book, world in random_cases(80, 10):
            for which, state in every_pair(book, world):
                told = ends(book, world, which, state)
                for wanted in some_sets(range(len(world)))[:10]:
                    word = "way" if set(told) & set(wanted) else "table"
                    self.assertEqual(plan(book, world, which, state, wanted)[0], word)

    def test_lists_as_tuples(self):
        for book, world in random_cases(20, 11):
            other = Book(book.facts, book.deeds, as_lists(book.tasks))
            for wanted in some_sets(range(len(world))):
                self.assertEqual(plan(book, world, 0, 0, wanted), plan(other, world, 0, 0, list(wanted)))
