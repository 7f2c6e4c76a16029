"""Points [11], [46] and [47]: books and worlds as texts."""

import unittest
from itertools import product

from methodworlds.books import Book
from methodworlds.errors import BadMethod, BadState, BadSyntax, BadValue
from methodworlds.texts import parse, printed
from methodworlds.worlds import World, facts_world
from tests.reference import deed, method, random_cases, task

BOOK = Book(1, 2, (
    (method(), method(deed(0), task(0), when=((0, False),))),
    (),
    (method(task(2), when=((0, True),)), method(deed(1), deed(0))),
))
BOOK_TEXT = "book 1 2\ntask\nmethod :\nmethod n0 : d0 t0\ntask\ntask\nmethod y0 : t2\nmethod : d1 d0\n"
WORLD = World(2, ((True, False), (False, False), (True, True)), ((1, None), (None, None), (2, 0)))
WORLD_TEXT = "world 2\nstate 10 1 x\nstate 00 x x\nstate 11 2 0\n"


class TestPrinted(unittest.TestCase):
    def check(self, value, text):
        self.assertEqual(printed(value), text)
        self.assertEqual(printed(value=value), text)
        back = parse(text)
        self.assertTrue(back == value)
        self.assertIs(type(back), type(value))
        self.assertEqual(printed(parse(text=text)), text)

    def test_books(self):
        self.check(BOOK, BOOK_TEXT)
        self.check(Book(0, 1, ((),)), "book 0 1\ntask\n")
        self.check(Book(0, 5, ((), (method(),))), "book 0 5\ntask\ntask\nmethod :\n")
        every = method(deed(4), task(5), task(0), deed(0), deed(1), when=((0, True), (1, False), (2, False), (3, True)))
        self.check(Book(4, 5, ((every,) * 5,) * 6),
                   "book 4 5\n" + ("task\n" + "method y0 n1 n2 y3 : d4 t5 t0 d0 d1\n" * 5) * 6)

    def test_worlds(self):
        self.check(WORLD, WORLD_TEXT)
        self.check(World(0, ((),), ((None,),)), "world 0\nstate - x\n")
        self.check(World(0, ((), ()), ((0, 1), (1, None))), "world 0\nstate - 0 1\nstate - 1 x\n")
        self.check(World(4, ((True, False, False, True),) * 16, ((15, 9, None, 0, 10),) * 16),
                   "world 4\n" + "state 1001 15 9 x 0 10\n" * 16)
        self.check(facts_world(2, ((((0, False),), (0,), ()), ((), (), (1,)))),
                   "world 2\nstate 00 1 0\nstate 10 x 1\nstate 01 3 0\nstate 11 x 1\n")

    def test_random(self):
        for book, world in random_cases(200, 91):
            for value in (book, world):
                text = printed(value)
                self.check(value, text)
                self.assertTrue(text.endswith("\n"))
                self.assertNotIn("  ", text)
                self.assertFalse([line for line in text.split("\n") if line != line.strip()])

    def test_refused(self):
        for wrong in (None, True, 0, "", "book", BOOK_TEXT, (), (1, 2, ()), [BOOK], (WORLD,), 10 ** 300):
            with self.assertRaises(BadValue) as caught:
                printed(wrong)
            self.assertEqual(caught.exception.at, 1)


class Parsing(unittest.TestCase):
    def refuse(self, at, *lines, end="\n"):
        """A text of these lines, with what stands behind the last line feed."""
        text = "\n".join(lines) + end
        with self.assertRaises(BadSyntax, msg=repr(text)) as caught:
            parse(text)
        self.assertEqual(caught.exception.at, at, repr(text))
        self.assertNotIsInstance(caught.exception, BadValue)

    def refuse_as(self, kind, told, *lines):
        with self.assertRaises(kind, msg=lines) as caught:
            parse("".join(line + "\n" for line in lines))
        self.assertEqual(vars(caught.exception), told, lines)


NO_NUMBERS = (
    *("", "00", "01", "007", "10000", "99999", "123456789", "+1", "-1", "-0", "1.0", "1e1", "0x1", "1_0", "a", "x",
      ","),
    *("1,", "1a", "a1", "O", "l", "'1'", "(1)", "1:", ":", "\t1", "1\t", "#", "$1"),
)


class TestFirstLine(Parsing):
    def test_wrong_ones(self):
        for line in (
            *("", " ", "\t", "x", "task", "method :", "state - 0", "Book 1 2", "BOOK 1 2", "World 1", "books 1 2"),
            *("book", "book 1", "book 1 2 3", "book  1 2", "book 1  2", " book 1 2", "book 1 2 ", "book\t1 2",
              "book1 2"),
            *("world", "world 1 2", "world  1", " world 1", "world 1 ", "world\t1", "world1", "world -", "book 1 -"),
            *("book 1 2\r", "world 1\r", "bookworld 1", "book world 1", "world book 1 2", "worlds 1", "1 2",
              "book:1 2"),
        ):
            self.refuse(0, line)
            self.refuse(0, line, "task")
            self.refuse(0, line, "task", "nothing", end="\nnothing")
            self.refuse(0, line, "state 0 0")

    def test_numbers(self):
        for word in NO_NUMBERS:
            self.refuse(0, f"book {word} 1", "task")
            self.refuse(0, f"book 1 {word}", "task")
            self.refuse(0, f"world {word}", "state 1 0")

    def test_numbers_that_book_and_world_refuse(self):
        for word in ("5", "10", "99", "100", "1000", "9999"):
            self.refuse_as(BadValue, {"at": 1}, f"book {word} 1", "task")
            self.refuse_as(BadValue, {"at": 1}, f"book {word} 0", "task", "method y9999 :")
            self.refuse_as(BadValue, {"at": 1}, f"world {word}", "state 1 0")
            self.refuse_as(BadValue, {"at": 2}, f"book 4 {word.replace('5', '6')}", "task")
        self.refuse_as(BadValue, {"at": 2}, "book 4 0", *["task"] * 7)


class TestEnd(Parsing):
    def test_nothing(self):
        self.refuse(0, end="")
        self.refuse(0, "")

    def test_no_line_feed_at_all(self):
        for text in ("book 1 2", "world 1", "nothing", " ", "task"):
            self.refuse(0, text, end="")

    def test_no_task_and_no_state(self):
        self.refuse(1, "book 1 2")
        self.refuse(1, "world 1")
        for behind in ("task", "nothing", "state 1 0", " ", "method :"):
            self.refuse(1, "book 1 2", behind, end="")
            self.refuse(1, "world 1", behind, end="")

    def test_no_last_line_feed(self):
        book, world = BOOK_TEXT.split("\n")[:-1], WORLD_TEXT.split("\n")[:-1]
        for lines in (book, world):
            for many in range(2, len(lines) + 1):
                for behind in ("task", "method :", "state 00 0 0", "nothing", " ", "\t"):
                    self.refuse(many, *lines[:many], behind, end="")
                self.refuse(many - 1, *lines[:many], end="")
        self.refuse(8, *book, "task", end="")

    def test_a_line_that_is_wrong_ahead(self):
        self.refuse(1, "book 1 2", "nothing", "task", end="")
        self.refuse(0, "nothing", "task", end="")
        self.refuse(2, "book 1 2", "task", "", end="\nx")
        self.refuse(1, "world 1", "", end="\nx")

    def test_wrong_form_comes_ahead_of_errors_of_book_and_world(self):
        self.refuse(2, "book 9 9", "task", "method y9 : d", "task")
        self.refuse(2, "book 9 9", "task", end="\nx")
        self.refuse(8, "book 9 9", *["task"] * 7, end="\nx")
        self.refuse(2, "world 9", "state 1 0", "state 1")


class TestBookLines(Parsing):
    def refuse_line(self, line):
        """In each place of a book but the first one."""
        self.refuse(1, "book 2 3", line)
        self.refuse(2, "book 2 3", "task", line, "task")
        self.refuse(3, "book 2 3", "task", "method :", line, line)
        self.refuse(3, "book 2 3", "task", "task", line, end="\nx")

    def test_task_first(self):
        self.refuse(1, "book 1 2", "method :")
        self.refuse(1, "book 1 2", "method :", "task")
        self.refuse(1, "book 1 2", "method n0 : d0", "nothing")

    def test_wrong_words(self):
        for line in (
            *("", " ", "\t", "nothing", "book 1 2", "world 1", "state 1 0", "state - 0", "Task", "tasks", "task ",
              " task"),
            *("task 0", "task :", "task\t", "method", "method ", "methods :", "Method :", " method :", "method : "),
            *("method  :", "method:", "method ::", "method : :", "method :  d0", "method : d0 ", "method n0  : d0"),
            *("method  n0 : d0", "method :d0", "method n0: d0", "method d0", "method n0", "method n0 d0",
              "method : d0 :"),
            *("method d0 : d0", "method t0 :", "method : n0", "method : y0 d0", "method : d0 n0", "method\t:", ": d0"),
            *("method 0 :", "method : 0", "method N0 :", "method Y0 :", "method : D0", "method : T0", "method x0 :"),
            *("method yn0 :", "method y0n1 :", "method y0,n1 :", "method : d0t0", "method : d0,t0", "method : dt0"),
            *("method :\r", "task\r", "method deed0 :", "method : deed0", "method : deed 0", "method y 0 :",
              "method - : d0"),
            *("method : -", "method : x", "method -", "d0", "n0 : d0", "method : d0 : d0", "method : y", "method ,:"),
        ):
            self.refuse_line(line)

    def test_numbers(self):
        for word in NO_NUMBERS:
            for line in (f"method y{word} :", f"method n{word} : d0", f"method : d{word}", f"method n0 : d0 t{word}"):
                self.refuse_line(line)

    def test_large_numbers_are_no_wrong_form(self):
        for number in (5, 10, 99, 100, 999, 1000, 9999):
            for words in (f"y{number} :", f"n{number} :", f": d{number}", f": t{number}", f"n0 : d0 t{number}"):
                self.refuse_as(BadMethod, {"task": 1, "method": 2},
                               "book 2 3", "task", "task", "method :", "method :", f"method {words}")

    def test_errors_of_book(self):
        self.refuse_as(BadMethod, {"task": 0, "method": 0}, "book 2 1", "task", "method n0 n0 :")
        self.refuse_as(BadMethod, {"task": 0, "method": 0}, "book 2 1", "task", "method n1 y0 :", "method n9 :")
        self.refuse_as(BadMethod, {"task": 0, "method": 1}, "book 2 1", "task", "method :", "method :" + " d0" * 6)
        self.refuse_as(BadMethod, {"task": 5, "method": 4}, "book 0 1", *["task"] * 6, *["method :"] * 4, "method y0 :")
        self.refuse_as(BadMethod, {"task": 0, "method": 0}, "book 0 1", "task", "method : d1")
        self.refuse_as(BadMethod, {"task": 1, "method": 0}, "book 0 1", "task", "task", "method : t2")
        self.refuse_as(BadValue, {"at": 3}, "book 0 1", *["task"] * 7)
        self.refuse_as(BadValue, {"at": 3}, "book 0 1", "task", *["method :"] * 6)
        self.refuse_as(BadValue, {"at": 3}, "book 0 1", "task", "method : d9", "task", *["method :"] * 6)
        self.refuse_as(BadValue, {"at": 2}, "book 0 0", "task", *["method : d9"] * 6)
        self.refuse_as(BadValue, {"at": 1}, "book 5 6", *["task"] * 7)

    def test_many_lines(self):
        self.refuse_as(BadValue, {"at": 3}, "book 0 1", *["task"] * 9000)
        self.refuse(9001, "book 0 1", *["task"] * 9000, "tasks")
        self.refuse_as(BadMethod, {"task": 0, "method": 0}, "book 0 1", "task", "method :" + " d0" * 9000)
        self.refuse_as(BadMethod, {"task": 0, "method": 0}, "book 4 1", "task", "method" + " y0" * 9000 + " :")


class TestWorldLines(Parsing):
    def refuse_line(self, line):
        self.refuse(1, "world 2", line)
        self.refuse(1, "world 2", line, line, end="\nx")
        self.refuse(3, "world 2", "state 10 0 1", "state 01 x x", line, "state 00 1 1")

    def test_wrong_words(self):
        for line in (
            *("", " ", "\t", "nothing", "task", "method :", "world 2", "book 1 2", "state", "state ", "state 10",
              "state 10 "),
            *(" state 10 0", "state 10 0 ", "state  10 0", "state 10  0", "States 10 0", "states 10 0", "state\t10 0"),
            *("state 12 0", "state 2 0", "state 1x 0", "state x 0", "state -- 0", "state -1 0", "state 1- 0",
              "state yn 0"),
            *("state 1,0 0", "state : 0", "state 10 : 0", "state 10 -", "state 10 X", "state 10 xx", "state 10 x0"),
            *("state 10 0 y", "state 10 0,1", "state 10 s0", "state 10 None", "state 10 0\r", "10 0", "state10 0",
              "state - "),
            *("state -", "state  0", "state - - 0", "state 10 0 -", "state TF 0", "state True 0", "state 10 x,x"),
        ):
            self.refuse_line(line)

    def test_numbers(self):
        for word in NO_NUMBERS:
            if word != "x":
                self.refuse_line(f"state 10 {word}")
                self.refuse_line(f"state 10 0 {word}")
                self.refuse_line(f"state - {word} 0")

    def test_errors_of_world(self):
        self.refuse_as(BadState, {"at": 0}, "world 2", "state 1 0", "state 1 9")
        self.refuse_as(BadState, {"at": 1}, "world 2", "state 11 0", "state 111 0")
        self.refuse_as(BadState, {"at": 1}, "world 2", "state 11 0", "state - 0")
        self.refuse_as(BadState, {"at": 0}, "world 0", "state 1 0")
        self.refuse_as(BadState, {"at": 0}, "world 0", "state 0 0")
        self.refuse_as(BadState, {"at": 0}, "world 4", "state - 0")
        self.refuse_as(BadState, {"at": 0}, "world 4", "state " + "01" * 20000 + " 0")
        self.refuse_as(BadState, {"at": 2}, "world 0", "state - 9999", "state - 0", "state 1 0")
        self.refuse_as(BadState, {"at": 0}, "world 0", "state - 2", "state - 0")
        self.refuse_as(BadState, {"at": 1}, "world 0", "state - 0", "state - 9999")
        self.refuse_as(BadState, {"at": 1}, "world 0", "state - 0 x", "state - 0")
        self.refuse_as(BadState, {"at": 1}, "world 0", "state - 0", "state - 0 x")
        self.refuse_as(BadState, {"at": 0}, "world 0", "state - 0 0 0 0 0 0")
        self.refuse_as(BadState, {"at": 0}, "world 0", "state -" + " x" * 9000, "state - 0")
        self.refuse_as(BadValue, {"at": 2}, "world 1", *["state - 0"] * 17)
        self.refuse_as(BadValue, {"at": 1}, "world 5", *["state - 0"] * 17)

    def test_no_facts_whatever_facts_is(self):
        for facts in range(1, 5):
            self.refuse_as(BadState, {"at": 0}, f"world {facts}", "state - 0")
        self.assertEqual(parse("world 0\nstate - 0\n").states, ((),))


class TestParse(Parsing):
    def test_refused(self):
        for wrong in (None, True, 0, (), [], (BOOK_TEXT,), [WORLD_TEXT], BOOK, WORLD, 10 ** 300):
            with self.assertRaises(BadValue) as caught:
                parse(wrong)
            self.assertEqual(caught.exception.at, 1)

    def test_every_text_of_some_lines(self):
        """Each text either is parsed, and then is what is printed of it, or is refused with one of the errors."""
        heads = ("book 1 1", "book 0 1", "world 1", "world 0", "task", "")
        rows = ("task", "method :", "method n0 : d0 t1", "state 1 0", "state - x", "nothing")
        seen = {}
        for many in range(4):
            for lines in product(heads, *[rows] * many):
                for end in ("\n", "", "\nx"):
                    text = "\n".join(lines) + end
                    try:
                        value = parse(text)
                    except (BadSyntax, BadMethod, BadState, BadValue) as error:
                        seen[type(error)] = seen.get(type(error), 0) + 1
                        if isinstance(error, BadSyntax):
                            self.assertEqual(error.at, self.wrong_line(text), repr(text))
                    else:
                        self.assertIsNone(self.wrong_line(text))
                        self.assertEqual(printed(value), text)
                        seen[type(value)] = seen.get(type(value), 0) + 1
        for kind in (BadSyntax, BadMethod, BadState, Book, World):
            self.assertGreater(seen[kind], 5, seen)

    def wrong_line(self, text):
        """The first line, of those above, that is wrong in its place."""
        *lines, behind = text.split("\n")
        for at, line in enumerate(lines):
            word, kind = line.split(" ")[0], lines[0].split(" ")[0]
            right = {"book": ["task", "method"][:at], "world": ["state"]}.get(kind, [])
            if word not in (right if at else ("book", "world")):
                return at
        return len(lines) if behind or len(lines) < 2 else None
