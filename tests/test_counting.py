"""Points [6], [20] and [32]: how many ways there are with a number of deeds."""

import unittest
from math import comb
from random import Random

from methodworlds.books import Book
from methodworlds.counting import ways
from methodworlds.doing import courses, plan
from methodworlds.errors import BadValue
from methodworlds.worlds import World
from tests.reference import (
    CLAMP, deed, every_pair, low_ways, method, part_deeds, random_book, random_cases, random_world, slow_courses,
    some_sets, task,
)

ROUND = World(0, ((),), ((0, 0),))
# From state to state: 0 -> 1 -> 2 -> 3 by deed 0; deed 1 stays. The fact holds in state 2 alone.
LINE = World(1, ((False,), (False,), (True,), (False,)), ((1, 0), (2, 1), (3, 2), (None, 3)))


def rich_cases(many, seed, tasks, states, share):
    """Books and worlds in which there are many ways."""
    random = Random(seed)
    for _ in range(many):
        facts, deeds = random.randint(0, 1), random.randint(1, 2)
        book = random_book(random, facts, deeds, tasks, 4, 3, share)
        yield book, random_world(random, facts, deeds, states, 0.1)


class TestWays(unittest.TestCase):
    def row(self, book, world=ROUND, which=0, state=0, wanted=None, most=12):
        """How many ways with 0, 1, ... deeds."""
        wanted = tuple(range(len(world))) if wanted is None else wanted
        return [ways(book, world, which, state, wanted, deeds) for deeds in range(most + 1)]

    def test_one_way(self):
        book = Book(0, 2, ((method(deed(0), deed(1)),),))
        self.assertEqual(self.row(book), [0, 0, 1] + [0] * 10)
        self.assertEqual(ways(book=book, world=ROUND, task=0, state=0, wanted=[0], deeds=2), 1)
        self.assertIs(type(ways(book, ROUND, 0, 0, (0,), 2)), int)
        self.assertIs(type(ways(book, ROUND, 0, 0, (0,), 3)), int)

    def test_no_way(self):
        self.assertEqual(self.row(Book(0, 2, ((),))), [0] * 13)
        self.assertEqual(self.row(Book(0, 2, ((method(task(1)),), ()))), [0] * 13)
        self.assertEqual(self.row(Book(1, 2, ((method(when=((0, True),)),),)), LINE), [0] * 13)
        self.assertEqual(self.row(Book(1, 2, ((method(deed(0)),),)), LINE, 0, 3), [0] * 13)

    def test_no_deeds(self):
        book = Book(0, 2, ((method(), method(task(1)), method(task(1), task(1))), (method(), method())))
        self.assertEqual(self.row(book), [1 + 2 + 4] + [0] * 12)
        self.assertEqual(self.row(book, which=1), [2] + [0] * 12)

    def test_two_ways_with_one_course(self):
        first = (method(deed(0)), method(task(1)), method(task(1), task(2)))
        book = Book(0, 2, (first, (method(deed(0)),), (method(),)))
        self.assertEqual(courses(book, ROUND, 0, 0, 5), ((0,),))
        self.assertEqual(self.row(book), [0, 3] + [0] * 11)

    def test_equal_methods_by_their_numbers(self):
        book = Book(0, 2, ((method(task(1)), method(task(1))), (method(deed(0)), method(deed(0)), method(deed(0)))))
        self.assertEqual(self.row(book), [0, 6] + [0] * 11)

    def test_choices_row_by_row(self):
        choices = (method(), method(deed(0)), method(deed(1)), method(deed(1), deed(0)))
        book = Book(0, 2, ((method(*[task(1)] * 5),), choices))
        # The fifth power of 1 + 2 x + x ** 2.
        self.assertEqual(self.row(book), [comb(10, deeds) for deeds in range(13)])

    def test_back_in_its_own_methods(self):
        self.assertEqual(self.row(Book(0, 2, ((method(), method(deed(0), task(0))),))), [1] * 13)
        self.assertEqual(self.row(Book(0, 2, ((method(), method(task(0), deed(0)), method(deed(1), task(0))),))),
                         [2 ** deeds for deeds in range(13)])
        catalan = [comb(2 * many, many) // (many + 1) for many in range(13)]
        self.assertEqual(self.row(Book(0, 2, ((method(deed(0)), method(task(0), task(0))),))), [0] + catalan[:12])
        self.assertEqual(self.row(Book(0, 2, ((method(), method(deed(0), task(0), task(0))),))), catalan)
        fibonacci = [1, 1, 2, 3, 5, 8, 13, 21, 34, 55, 89, 144, 233]
        book = Book(0, 2, ((method(), method(deed(0), task(0)), method(deed(0), deed(1), task(0))),))
        self.assertEqual(self.row(book), fibonacci)

    def test_ends(self):
        book = Book(1, 2, ((method(), method(deed(0), task(0)), method(deed(1), task(0))),))
        for deeds in range(13):
            for end in range(4):
                # So many steps on, and so many stays; in state 3 there is no going on.
                self.assertEqual(ways(book, LINE, 0, 0, (end,), deeds), comb(deeds, end) if end <= deeds else 0)
            self.assertEqual(ways(book, LINE, 0, 0, (0, 2), deeds), 1 + comb(deeds, 2))
            self.assertEqual(ways(book, LINE, 0, 0, (), deeds), 0)
            self.assertEqual(ways(book, LINE, 0, 3, (3,), deeds), 1)
            self.assertEqual(ways(book, LINE, 0, 3, (0, 1, 2), deeds), 0)

    def test_conditions(self):
        book = Book(1, 2, ((method(deed(0), task(0)), method(when=((0, True),)), method(deed(1), when=((0, False),))),))
        self.assertEqual(self.row(book, LINE, 0, 0), [0, 1, 2, 0, 1] + [0] * 8)
        self.assertEqual(self.row(book, LINE, 0, 0, (2,)), [0, 0, 1] + [0] * 10)
        self.assertEqual(self.row(book, LINE, 0, 3), [0, 1] + [0] * 11)

    def test_endless(self):
        self.assertEqual(self.row(Book(0, 2, ((method(task(0)), method()),))), [None] + [0] * 12)
        self.assertEqual(self.row(Book(0, 2, ((method(task(0)), method(deed(0))),))), [0, None] + [0] * 11)
        self.assertEqual(self.row(Book(0, 2, ((method(task(0), task(0)), method(), method(deed(0))),))), [None] * 13)
        loop = (method(task(2)), method())
        book = Book(0, 2, ((method(task(1), deed(0)),), (method(task(2), task(2)), method(deed(1))), loop))
        self.assertEqual(self.row(book), [0, None, 1] + [0] * 10)
        book = Book(0, 2, ((method(task(1)), method()), (method(task(2)), method(deed(0))), (method(task(0)),)))
        self.assertEqual(self.row(book), [None, None] + [0] * 11)
        self.assertEqual(self.row(book, which=1), [None, None] + [0] * 11)

    def test_round_and_round_without_an_end(self):
        """What comes back without ever being done has no ways at all."""
        self.assertEqual(self.row(Book(0, 2, ((method(task(0)),),))), [0] * 13)
        self.assertEqual(self.row(Book(0, 2, ((method(task(1)), method()), (method(task(1)),)))), [1] + [0] * 12)
        self.assertEqual(self.row(Book(0, 2, ((method(task(0), task(1)), method()), ()))), [1] + [0] * 12)
        book = Book(0, 2, ((method(task(1), task(0)), method()), (method(deed(0)),)))
        self.assertEqual(self.row(book), [1] * 13)

    def test_endless_with_another_number_of_deeds(self):
        book = Book(0, 2, ((method(deed(0)), method(task(1))), (method(task(1)), method(deed(0), deed(0)))))
        self.assertEqual(self.row(book), [0, 1, None] + [0] * 10)
        book = Book(0, 2, ((method(task(1), deed(0)), method(deed(0), task(0))), (method(task(1)), method())))
        self.assertEqual(self.row(book), [0] + [None] * 12)
        loop = (method(task(1)), method(*[deed(0)] * 5))
        book = Book(0, 2, ((method(task(1)), method(deed(0), task(0))), loop))
        self.assertEqual(self.row(book), [0] * 5 + [None] * 8)
        book = Book(0, 2, ((method(task(1)), method(deed(0), task(0)), method()), loop))
        self.assertEqual(self.row(book), [1] * 5 + [None] * 8)

    def test_endless_ways_that_do_not_end_in_a_wanted_state(self):
        book = Book(1, 2, ((method(deed(1)), method(task(1))), (method(task(1)), method(deed(0)))))
        self.assertEqual(ways(book, LINE, 0, 0, (0,), 1), 1)
        self.assertIsNone(ways(book, LINE, 0, 0, (1,), 1))
        self.assertIsNone(ways(book, LINE, 0, 0, (0, 1), 1))
        self.assertEqual(ways(book, LINE, 0, 0, (0, 2, 3), 1), 1)
        self.assertEqual(ways(book, LINE, 0, 0, (), 1), 0)

    def test_no_wanted_states(self):
        book = Book(0, 2, ((method(task(0), task(0)), method(), method(deed(0))),))
        for deeds in range(13):
            self.assertEqual(ways(book, ROUND, 0, 0, (), deeds), 0)
            self.assertEqual(ways(book, ROUND, 0, 0, [], deeds), 0)

    def test_endless_in_some_states(self):
        """The task comes back where the fact holds, ahead of the deed or behind it."""
        nothing = (method(when=((0, True),)),)
        behind = Book(1, 2, ((method(task(0), task(1)), method(deed(0))), nothing))
        self.assertEqual([ways(behind, LINE, 0, state, (0, 1, 2, 3), 1) for state in range(4)], [1, None, 1, 0])
        ahead = Book(1, 2, ((method(task(1), task(0)), method(deed(0))), nothing))
        self.assertEqual([ways(ahead, LINE, 0, state, (0, 1, 2, 3), 1) for state in range(4)], [1, 1, None, 0])
        both = Book(1, 2, ((method(task(1), task(0), task(1)), method(deed(0)), method(deed(1))), nothing))
        self.assertEqual([ways(both, LINE, 0, state, (0, 1, 2, 3), 1) for state in range(4)], [2, 2, None, 1])
        self.assertEqual([ways(both, LINE, 0, 2, (end,), 1) for end in range(4)], [0, 0, None, 1])

    def test_endless_steps_beside_none(self):
        """What is endless does not count beside a step that cannot be done."""
        loop = (method(task(1)), method())
        book = Book(0, 2, ((method(task(1), task(2)), method(deed(0))), loop, ()))
        self.assertEqual(self.row(book), [0, 1] + [0] * 11)
        book = Book(0, 2, ((method(task(1), task(2)), method(task(2), task(1))), loop, (method(deed(0)),)))
        self.assertEqual(self.row(book), [0, None] + [0] * 11)
        book = Book(1, 2, ((method(task(1), deed(0)), method(deed(1))), loop))
        self.assertEqual(self.row(book, LINE, 0, 3), [0, 1] + [0] * 11)

    def test_endless_both_sides_with_deeds(self):
        loop = (method(task(1)), method(deed(0), deed(0)), method(deed(0)))
        book = Book(0, 2, ((method(task(1), task(1)), method(task(1), deed(1), task(1))), loop))
        self.assertEqual(self.row(book), [0, 0, None, None, None, None] + [0] * 7)
        some = (method(deed(0), deed(0)), method(deed(0)))
        book = Book(0, 2, ((method(task(1), task(2)), method(task(2), task(1))), loop, some))
        self.assertEqual(self.row(book), [0, 0, None, None, None] + [0] * 8)
        book = Book(0, 2, ((method(task(2), task(2)),), loop, some))
        self.assertEqual(self.row(book), [0, 0, 1, 2, 1] + [0] * 8)

    def test_many_digits(self):
        nested = [(method(*[task(number + 1)] * 5),) * 5 for number in range(5)]
        book = Book(0, 2, (*nested, (method(),) * 5))
        told = 5
        for _ in range(5):
            told = 5 * told ** 5
        self.assertEqual(ways(book, ROUND, 0, 0, (0,), 0), told)
        self.assertEqual(self.row(book, most=2)[1:], [0, 0])
        # One deed in one of the 3,125 places.
        book = Book(0, 2, (*nested, (*(method(),) * 4, method(deed(0)))))
        row = self.row(book)
        choices = 5 ** sum(5 ** level for level in range(5))
        for deeds in range(13):
            self.assertEqual(row[deeds], choices * comb(5 ** 5, deeds) * 4 ** (5 ** 5 - deeds))

    def test_wrong_number_of_deeds(self):
        book = Book(0, 2, ((method(),),))
        for wrong in (-1, 13, 10 ** 300, True, False, None, "1", (1,)):
            with self.assertRaises(BadValue) as caught:
                ways(book, ROUND, 0, 0, (0,), wrong)
            self.assertEqual(caught.exception.at, 6)
        self.assertEqual(ways(book, ROUND, 0, 0, (0,), 12), 0)

    def check_random(self, cases, most):
        numbers = {}
        for book, world in cases:
            # Ways that nest more methods than this come back to the same without a deed between.
            height = len(book.tasks) * (most + 1)
            low, high = low_ways(book, world, most, height), low_ways(book, world, most, 2 * height)
            for which, state in every_pair(book, world):
                for deeds in range(most + 1):
                    told = [self.told(low[which, state], high[which, state], (end, deeds)) for end in range(len(world))]
                    for wanted in some_sets(range(len(world)))[-3:] + [(end,) for end in range(len(world))]:
                        counts = [told[end] for end in wanted]
                        count = None if None in counts else sum(counts)
                        found = ways(book, world, which, state, wanted, deeds)
                        self.assertEqual(found, count, (book.tasks, world.moves))
                        numbers[count] = numbers.get(count, 0) + 1
        return numbers

    def told(self, low, high, key):
        count, later = low.get(key, 0), high.get(key, 0)
        return None if later == CLAMP or later > count else count

    def test_random(self):
        numbers = self.check_random(random_cases(60, 41, 3, 3), 3)
        self.assertGreater(numbers[None], 10)
        numbers = self.check_random(rich_cases(60, 41, 2, 2, 0.4), 5)
        self.assertGreater(numbers[None], 300)
        self.assertGreater(len(numbers), 50)
        self.assertGreater(sum(numbers.values()) - numbers[None] - numbers[0], 800)

    def test_random_with_more_deeds(self):
        numbers = self.check_random(rich_cases(15, 43, 2, 3, 0.4), 7)
        self.assertGreater(numbers[None], 100)
        self.assertGreater(len(numbers), 50)

    def test_none_exactly_where_there_is_no_course(self):
        for book, world in random_cases(60, 44, 3, 3):
            known = slow_courses(book, world, 4)
            for which, state in every_pair(book, world):
                for deeds in range(5):
                    for end in range(len(world)):
                        some = [row for row, behind in known[which, state] if len(row) == deeds and behind == end]
                        self.assertEqual(ways(book, world, which, state, (end,), deeds) == 0, not some)

    def test_fewest_deeds_have_ways(self):
        for book, world in random_cases(60, 45):
            for which, state in every_pair(book, world):
                wanted = tuple(range(0, len(world), 2))
                word, value = plan(book, world, which, state, wanted)
                fewest = part_deeds(book, world, value)[-1] if word == "way" else 13
                for deeds in range(min(fewest, 6)):
                    self.assertEqual(ways(book, world, which, state, wanted, deeds), 0)
                if fewest <= 12:
                    self.assertNotEqual(ways(book, world, which, state, wanted, fewest), 0)
