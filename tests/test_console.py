"""Points [11] and [48] to [50]: the console."""

import unittest
from itertools import permutations
from random import Random

from methodworlds.books import Book
from methodworlds.checking import unrolled
from methodworlds.comparing import apart, within
from methodworlds.console import Console
from methodworlds.counting import ways
from methodworlds.doing import ends, plan
from methodworlds.errors import BadSyntax, BadValue, MethodError
from methodworlds.machines import normal
from methodworlds.reducing import fewest
from methodworlds.sticking import stuck
from methodworlds.texts import parse, printed
from methodworlds.worlds import World
from tests.large import LESS_301, MANY_ROWS_2000, SETS_300, SETS_301
from tests.reference import deed, method, near, random_tails, random_world, tails_cases, task

BOOK = Book(1, 2, ((((), ()), (((0, False),), (("deed", 0), ("task", 0)))), (((), (("deed", 0),)), ((), ()))))
WORLD = World(1, ((False,), (True,)), ((1, None), (None, 0)))

# For each command words behind it that have their form, kind by kind.
FORMS = {
    "clear": ("name",),
    "show": ("name",),
    "ends": ("name", "name", "number", "number"),
    "plan": ("name", "name", "number", "number", "numbers"),
    "ways": ("name", "name", "number", "number", "numbers", "number"),
    "stuck": ("name", "name", "number", "number"),
    "same": ("name", "number", "name", "number"),
    "within": ("name", "number", "name", "number"),
    "nodes": ("name", "number"),
    "fewest": ("name", "number"),
}
RIGHT = {
    "name": ("a", "z", "book", "abcdefghijkl", "mnopqrstuvwx", "zzzzzzzzzzzz", "line", "show", "x"),
    "number": ("0", "1", "9", "10", "100", "9999"),
    "numbers": ("0", "9999", "0,1", "1,0", "0,0", "0,1,2,3,9999", ",".join(["1"] * 9000)),
}
NO_NUMBERS = ("", "00", "01", "10000", "+1", "-1", "1.0", "x", "a", "1a", "-", "1\t", "0x1", "1_0", "none")
WRONG = {
    "name": ("", "A", "Book", "a1", "1", "0", "a-b", "a_b", "a.", "abcdefghijklm", "z" * 13, "z" * 60, "a\t", "\ta",
             ":", "#"),
    "number": (*NO_NUMBERS, "0,1", "1,"),
    "numbers": (*NO_NUMBERS, ",", "0,", ",0", "0,,1", "0,01", "0,10000", "0;1", "0,x", "0,-1", "(0,1)"),
}


def write(console, name, value):
    """Put what is printed of a book or a world, or a text, at the end of the text of a name."""
    text = value if isinstance(value, str) else printed(value)
    for line in text.split("\n")[:-1]:
        assert console.run(f"line {name} {line}") == "ok"


def console_with(**values):
    console = Console()
    for name, value in values.items():
        write(console, name, value)
    return console


class TestForms(unittest.TestCase):
    def setUp(self):
        self.console = console_with(b=BOOK, w=WORLD)

    def refuse(self, command):
        log, texts = self.console.log(), [self.console.run("show b"), self.console.run("show w")]
        with self.assertRaises(BadSyntax, msg=repr(command)) as caught:
            self.console.run(command)
        self.assertEqual(caught.exception.at, 0, repr(command))
        # Nothing is logged, but the commands that ask for the texts.
        self.assertEqual(self.console.log(), log + "show b\nshow w\n")
        self.assertEqual([self.console.run("show b"), self.console.run("show w")], texts)
        with self.assertRaises(BadSyntax) as caught:
            Console.replayed(f"clear a\n{command}\n")
        self.assertEqual(caught.exception.at, 1, repr(command))

    def test_each_form(self):
        """Words of each kind that have the form are no wrong syntax, whether or not a name is known."""
        for command, kinds in FORMS.items():
            for at, kind in enumerate(kinds):
                for word in RIGHT[kind]:
                    words = [RIGHT[other][0] for other in kinds]
                    words[at] = word
                    told = " ".join((command, *words))
                    self.assertEqual(Console().run(told), "error Unknown", told)
                    self.assertEqual(Console.replayed(told + "\n").log(), told + "\n")

    def test_by_name(self):
        self.assertEqual(Console().run(command="show a"), "error Unknown")
        self.assertEqual(Console.replayed(log="show a\n").log(), "show a\n")

    def test_each_word_wrong(self):
        for command, kinds in FORMS.items():
            for at, kind in enumerate(kinds):
                for word in WRONG[kind]:
                    words = [RIGHT[other][0] for other in kinds]
                    words[at] = word
                    self.refuse(" ".join((command, *words)))

    def test_more_and_fewer_words_and_blanks(self):
        for command, kinds in FORMS.items():
            words = [command, *[RIGHT[kind][0] for kind in kinds]]
            self.refuse(" ".join(words[:-1]))
            self.refuse(command)
            for more in ("0", "a", "", "0,1", " "):
                self.refuse(" ".join((*words, more)))
            self.refuse(" " + " ".join(words))
            for at in range(1, len(words)):
                self.refuse(" ".join((*words[:at], "", *words[at:])))
                self.refuse(" ".join(words[:at]) + "\t" + " ".join(words[at:]))
                self.refuse(" ".join(words[:at]) + "," + " ".join(words[at:]))
            self.refuse(" ".join((command.upper(), *words[1:])))
            self.refuse(" ".join((command + "s", *words[1:])))

    def test_no_command(self):
        for command in ("", " ", "\t", "x", "lines a b", "log", "replayed", "run", "parse b", "apart b 0 b 0",
                        "quit", "Line a b", "printed b", "accepts b 0", "normal b 0", "courses b w 0 0 5",
                        "needless b 0", "without b", "is_tails b", "LINE a b", " line a b", "line", "line ", "lin a b",
                        "linea b", "line\ta b", "ok", "error Unknown"):
            self.refuse(command)

    def test_line_forms(self):
        for name in WRONG["name"]:
            if " " not in name and name != "a\t":
                self.refuse(f"line {name} x")
        for command in ("line a", "line", "line ", "line  ", "line  a", "line  a b", "line abcdefghijklm x",
                        "line a\tb", "line a\tb c", "line abcdefghijklm", "line A b"):
            self.refuse(command)
        for name in RIGHT["name"]:
            self.assertEqual(self.console.run(f"line {name} x"), "ok")


class TestTexts(unittest.TestCase):
    def test_lines(self):
        console = Console()
        lines = ["book 1 2", "", " ", "  two  blanks ", "\t", "line a b", "a", "-", "#", "x" * 3000, "", ": d0,d1;"]
        for at, line in enumerate(lines):
            self.assertEqual(console.run(f"line some {line}"), "ok")
            self.assertEqual(console.run("show some"), "".join(each + "\n" for each in lines[:at + 1]))

    def test_an_empty_line(self):
        console = Console()
        self.assertEqual(console.run("line a "), "ok")
        self.assertEqual(console.run("show a"), "\n")
        self.assertEqual(console.run("line a  "), "ok")
        self.assertEqual(console.run("show a"), "\n \n")

    def test_clear(self):
        console = Console()
        self.assertEqual(console.run("clear a"), "error Unknown")
        self.assertEqual(console.run("show a"), "error Unknown")
        self.assertEqual(console.run("line a one"), "ok")
        self.assertEqual(console.run("clear a"), "ok")
        self.assertEqual(console.run("show a"), "")
        self.assertEqual(console.run("clear a"), "ok")
        self.assertEqual(console.run("nodes a 0"), "error BadSyntax")
        self.assertEqual(console.run("line a two"), "ok")
        self.assertEqual(console.run("show a"), "two\n")

    def test_names_are_apart(self):
        console = Console()
        names = ("a", "b", "ab", "aaaaaaaaaaaa", "line", "show")
        for name in names:
            console.run(f"line {name} this is {name}")
        console.run("clear b")
        for name in names:
            self.assertEqual(console.run(f"show {name}"), "" if name == "b" else f"this is {name}\n")
        self.assertEqual(console.run("show aaaaaaaaaaa"), "error Unknown")

    def test_consoles_share_nothing(self):
        first, second = Console(), Console()
        first.run("line a b")
        self.assertEqual(second.run("show a"), "error Unknown")
        self.assertEqual((first.log(), second.log()), ("line a b\n", "show a\n"))
        third = Console.replayed(first.log())
        third.run("line a c")
        first.run("line a d")
        self.assertEqual(first.run("show a"), "b\nd\n")
        self.assertEqual(third.run("show a"), "b\nc\n")
        self.assertEqual(Console().log(), "")

    def test_texts_as_they_are_by_now(self):
        console = console_with(b=BOOK, w=WORLD)
        self.assertEqual(console.run("ends b w 0 0"), "0,1")
        console.run("line w state 1 2 2")
        self.assertEqual(console.run("ends b w 0 0"), "0,1")
        self.assertEqual(console.run("ends b w 0 2"), "2")
        console.run("clear b")
        self.assertEqual(console.run("ends b w 0 0"), "error BadSyntax")
        write(console, "b", Book(1, 2, ((),)))
        self.assertEqual(console.run("ends b w 0 0"), "none")


def slow_answer(values, command):
    """The answer to a command about books and worlds, given by names."""
    word, *told = command.split(" ")
    kinds = FORMS[word]
    read = {"name": values.get, "number": int, "numbers": lambda each: tuple(int(one) for one in each.split(","))}
    told = [read[kind](each) for kind, each in zip(kinds, told)]
    if word == "ends":
        return ",".join(str(state) for state in ends(*told)) or "none"
    if word == "plan":
        kind, parts = plan(*told)
        return f"way {len(unrolled(*told[:2], parts))}" if kind == "way" else f"table {len(parts)}"
    if word == "ways":
        many = ways(*told)
        return "endless" if many is None else str(many)
    if word == "stuck":
        return "never" if stuck(*told) is None else "stuck"
    if word == "nodes":
        return str(len(normal(*told)))
    if word == "fewest":
        return str(len(fewest(*told)[0]))
    string = {"same": apart, "within": within}[word](*told)
    return word if string is None else f"apart {len(string[1])}"


class TestAnswers(unittest.TestCase):
    def test_the_example(self):
        console = console_with(b=BOOK, w=WORLD)
        self.check(console, {
            "ends b w 0 0": "0,1", "ends b w 0 1": "1", "ends b w 1 0": "0,1",
            "plan b w 0 0 1": "way 1", "plan b w 0 0 0,1": "way 0", "plan b w 0 1 0": "table 1",
            "ways b w 0 0 1 1": "1", "ways b w 0 0 1 0": "0", "ways b w 0 0 0 0": "1", "ways b w 0 0 0,1 12": "0",
            "stuck b w 0 0": "never", "stuck b w 1 1": "stuck", "stuck b w 1 0": "never",
            "same b 0 b 1": "apart 1", "same b 1 b 0": "apart 1", "same b 0 b 0": "same", "same b 1 b 1": "same",
            "within b 0 b 1": "apart 2", "within b 1 b 0": "apart 1", "within b 0 b 0": "within",
            "nodes b 0": "1", "nodes b 1": "2", "fewest b 0": "2", "fewest b 1": "2",
        })

    def check(self, console, answers):
        for command, answer in answers.items():
            self.assertEqual(console.run(command), answer, command)

    def test_none_and_endless(self):
        never = Book(0, 1, ((method(task(0)),), (method(task(1)), method())))
        self.check(console_with(b=never, w=World(0, ((),), ((0,),))), {
            "ends b w 0 0": "none", "plan b w 0 0 0": "table 1", "ways b w 0 0 0 0": "0", "stuck b w 0 0": "never",
            "ends b w 1 0": "0", "plan b w 1 0 0": "way 0", "ways b w 1 0 0 0": "endless", "ways b w 1 0 0 1": "0",
            "nodes b 0": "1", "fewest b 0": "0", "fewest b 1": "1", "within b 0 b 1": "within",
            "same b 0 b 1": "apart 0",
        })

    def test_ends_of_many_states(self):
        world = World(0, ((),) * 16, [((state + 1) % 16,) for state in range(16)])
        console = console_with(b=Book(0, 1, ((method(), method(deed(0), task(0))),)), w=world)
        self.assertEqual(console.run("ends b w 0 3"), "0,1,2,3,4,5,6,7,8,9,10,11,12,13,14,15")
        self.assertEqual(console.run("plan b w 0 3 2"), "way 15")
        self.assertEqual(console.run("plan b w 0 3 1,2"), "way 14")

    def test_ways_in_all_digits(self):
        """More digits than Python itself writes out."""
        tasks = [[method(deed(0), task(1), task(1), task(1), task(0)), method()]]
        tasks += [[method(*[task(which + 1)] * 5)] * 5 for which in range(1, 5)]
        book = Book(0, 1, (*tasks, [method()] * 5))
        console = console_with(b=book, w=World(0, ((),), ((0,),)))
        for deeds in (0, 1, 2, 3, 12):
            told = console.run(f"ways b w 0 0 0 {deeds}")
            number = 1
            for _ in range(deeds * 3 * 781):
                number *= 5
            self.assertEqual(self.value(told), number)
            self.assertFalse(deeds and told[0] == "0")
        self.assertGreater(len(told), 19000)
        replayed = Console.replayed(console.log())
        self.assertEqual(replayed.run("ways b w 0 0 0 12"), told)

    def value(self, text):
        number = 0
        for at in range(0, len(text), 1000):
            part = text[at:at + 1000]
            self.assertTrue(part.isdigit() and part.isascii())
            number = number * 10 ** len(part) + int(part)
        return number

    def test_digits_around_zeros(self):
        """Numbers of ways that are written with many zeros."""
        tens = [method(*[task(1)] * 5), method(*[task(1)] * 5)]
        ten = [method(task(2), task(3))]
        many = [[method(*[task(1)] * 5)], [method(*[task(4)] * 5)]]
        book = Book(0, 1, (tens, ten, [method()] * 2, [method()] * 5, *many))
        console = console_with(b=book, w=World(0, ((),), ((0,),)))
        for which, answer in ((0, "200000"), (1, "10"), (4, "1" + "0" * 5), (5, "1" + "0" * 25)):
            self.assertEqual(console.run(f"ways b w {which} 0 0 0"), answer)
        more = Book(0, 1, ((method(*[task(1)] * 5),), (method(*[task(2)] * 5),), (method(*[task(3)] * 5),),
                           (method(task(4), task(5)),), [method()] * 2, [method()] * 5))
        console = console_with(b=more, w=World(0, ((),), ((0,),)))
        self.assertEqual(console.run("ways b w 0 0 0 0"), "1" + "0" * 125)
        self.assertEqual(console.run("ways b w 1 0 0 0"), "1" + "0" * 25)

    def test_plans_with_more_deeds_than_can_be_unrolled(self):
        tasks = [(method(*[task(which + 1)] * 5),) for which in range(5)]
        console = console_with(b=Book(0, 1, (*tasks, (method(*[deed(0)] * 5),))), w=World(0, ((),), ((0,),)))
        for which in range(6):
            self.assertEqual(console.run(f"plan b w {which} 0 0"), f"way {5 ** (6 - which)}")

    def test_long_strings(self):
        console = console_with(b=SETS_300, e=Book(0, 2, ((),)))
        self.assertEqual(console.run("same b 0 e 0"), "apart 299")
        self.assertEqual(console.run("within b 0 e 0"), "apart 299")
        self.assertEqual(console.run("within e 0 b 0"), "within")
        self.assertEqual(console.run("nodes b 0"), "300")
        self.assertEqual(console.run("fewest b 0"), "6")

    def test_random(self):
        random = Random(95)
        seen = {}
        for book in tails_cases(80, 96, 3):
            other, world = near(random, book), random_world(random, book.facts, book.deeds, random.randint(1, 4))
            values = {"b": book, "c": other, "w": world}
            console = console_with(**values)
            for _ in range(25):
                command = random.choice(list(FORMS)[2:])
                names = {"same": "bc", "within": "cb", "nodes": "b", "fewest": "c"}.get(command, "bw")
                places = []
                for kind in FORMS[command]:
                    if kind == "name":
                        places.append(names[len([place for place in places if place.isalpha()])])
                    elif kind == "number":
                        places.append(str(random.choice((0, 0, 0, 0, 1, 1, 2, 3))))
                    else:
                        places.append(",".join(str(at) for at in range(4) if random.random() < 0.4) or "0")
                told = " ".join((command, *places))
                answer = console.run(told)
                try:
                    expected = slow_answer(values, told)
                except MethodError as error:
                    expected = f"error {type(error).__name__}"
                self.assertEqual(answer, expected, told)
                key = answer.split(" ")[0]
                seen[key] = seen.get(key, 0) + 1
            self.assertEqual(console.run("show b"), printed(book))
        for key in ("none", "way", "table", "never", "stuck", "same", "within", "apart", "error"):
            self.assertGreater(seen[key], 5, seen)


class TestErrors(unittest.TestCase):
    """The errors of functions as answers: all of them are logged, and change nothing."""

    def setUp(self):
        self.console = console_with(
            b=BOOK, w=WORLD, e="", x="nothing\n", m="book 1 2\ntask\nmethod : d2\n", v="book 1 2\n" + "task\n" * 7,
            s="world 1\nstate 1 9 9\n", p="world 1\n", o=Book(0, 2, ((),)), t=SETS_301, y=MANY_ROWS_2000, z=LESS_301,
            r=Book(1, 2, ((method(task(0), deed(0)),),)), u=World(1, ((True,),), ((0,),)),
        )
        self.console.run("line e x")
        self.console.run("clear e")

    def check(self, answer, *commands):
        for command in commands:
            log = self.console.log()
            self.assertEqual(self.console.run(command), answer, command)
            self.assertEqual(self.console.log(), log + command + "\n")

    def test_unknown_names(self):
        self.check("error Unknown", "clear q", "show q", "nodes q 0", "fewest q 0", "ends q w 0 0", "ends b q 0 0",
                   "plan q q 0 0 0", "ways b q 0 0 0 0", "stuck q w 0 0", "same q 0 b 0", "same b 0 q 0",
                   "within b 0 q 0")
        self.check("ok", "line q ")
        self.check("\n", "show q")

    def test_unknown_comes_ahead_of_all_parsing(self):
        for bad in ("e", "x", "m", "v", "s", "p", "w"):
            self.check("error Unknown", f"ends {bad} q 0 0", f"same {bad} 9 q 9", f"within {bad} 0 q 0",
                       f"stuck {bad} q 0 0", f"plan {bad} q 9 9 1,0", f"ways {bad} q 0 0 0 99", f"ends q {bad} 0 0",
                       f"same q 0 {bad} 0")

    def test_texts_are_parsed_from_left_to_right(self):
        wrong = {"e": "BadSyntax", "x": "BadSyntax", "p": "BadSyntax"}
        wrong.update({"m": "BadMethod", "v": "BadValue", "s": "BadState"})
        for name, error in wrong.items():
            self.check(f"error {error}", f"nodes {name} 0", f"fewest {name} 9", f"same b 0 {name} 0",
                       f"within b 0 {name} 9", f"ends {name} w 0 0", f"ends b {name} 0 0", f"stuck b {name} 9 9",
                       f"plan b {name} 0 0 1,0")
        for (first, error), (second, _) in permutations(wrong.items(), 2):
            self.check(f"error {error}", f"ends {first} {second} 0 0", f"plan {first} {second} 9 9 1,0",
                       f"ways {first} {second} 0 0 0 99", f"stuck {first} {second} 0 0", f"same {first} 9 {second} 9",
                       f"within {first} 0 {second} 0")

    def test_parsing_comes_ahead_of_the_function(self):
        """A task that is not there, and a world in the place of a book, beside a text that is wrong."""
        self.check("error BadMethod", "same b 9 m 0", "within w 0 m 0", "ends w m 0 0", "ends b m 9 9", "same w 0 m 0")
        self.check("error BadState", "ends w s 0 0", "same s 0 w 0", "same w 0 s 0")

    def test_a_world_where_a_book_is_wanted(self):
        self.check("error BadValue", "nodes w 0", "fewest w 0", "ends w w 0 0", "ends w b 0 0", "ends b b 0 0",
                   "plan w w 0 0 0", "plan b b 0 0 0", "ways b b 0 0 0 0", "ways w b 0 0 0 0", "stuck b b 0 0",
                   "stuck w w 0 0", "same w 0 b 0", "same b 0 w 0", "within w 0 w 0", "within b 0 w 0")

    def test_wrong_values(self):
        self.check("error BadValue", "ends b w 2 0", "ends b w 9999 0", "ends b w 0 2", "plan b w 0 0 1,0",
                   "plan b w 0 0 0,0", "plan b w 0 0 2", "plan b w 0 0 0,9999", "ways b w 0 0 1,0 1",
                   "ways b w 0 0 0 13", "ways b w 0 0 0 9999", "stuck b w 0 9", "stuck b w 9 0", "same b 2 b 0",
                   "same b 0 b 2", "within b 0 b 2", "nodes b 2", "fewest b 2")
        # A world that does not fit, books that are not alike, and one without tails only.
        self.check("error BadValue", "ends o w 0 0", "ends b u 0 0", "same b 0 o 0", "within o 0 b 0", "same r 0 b 0",
                   "same b 0 r 0", "nodes r 0", "fewest r 0")

    def test_too_many(self):
        self.check("error TooMany", "nodes t 0", "fewest t 0", "same t 0 t 0", "within t 0 o 0", "within o 0 t 0",
                   "fewest y 0", "fewest z 0")
        self.check(str(len(normal(LESS_301, 0))), "nodes z 0")
        self.check(str(len(normal(MANY_ROWS_2000, 0))), "nodes y 0")

    def test_nothing_is_changed(self):
        before = [self.console.run(f"show {name}") for name in "bwxmvsopty"]
        for command in ("ends b q 0 0", "nodes x 0", "same m 0 v 0", "nodes t 0", "ends b b 0 0", "clear q",
                        "ends b w 9 9"):
            self.assertTrue(self.console.run(command).startswith("error "))
        self.assertEqual([self.console.run(f"show {name}") for name in "bwxmvsopty"], before)
        self.check("error Unknown", "show q")


class TestLog(unittest.TestCase):
    def refuse(self, at, log, kind=BadSyntax):
        with self.assertRaises(kind, msg=repr(log)) as caught:
            Console.replayed(log)
        self.assertEqual(caught.exception.at, at, repr(log))

    def test_log(self):
        console = Console()
        self.assertEqual(console.log(), "")
        commands = ["line a  b ", "show a", "show b", "clear a", "nodes a 0", "line a ", "ends a a 0 0"]
        for at, command in enumerate(commands):
            console.run(command)
            self.assertEqual(console.log(), "".join(each + "\n" for each in commands[:at + 1]))
            with self.assertRaises(BadSyntax):
                console.run(command[:3])

    def test_replayed(self):
        console = console_with(b=BOOK, w=WORLD)
        console.run("ends b w 0 0")
        console.run("ends b q 0 0")
        replayed = Console.replayed(console.log())
        self.assertIs(type(replayed), Console)
        self.assertEqual(replayed.log(), console.log())
        for command in ("show b", "show w", "show q", "ends b w 1 0", "clear b", "show b", "line b x", "show b",
                        "nodes b 0"):
            self.assertEqual(replayed.run(command), console.run(command))
        self.assertEqual(replayed.log(), console.log())
        self.assertEqual(parse(replayed.run("show w")), WORLD)

    def test_of_a_console(self):
        self.assertEqual(Console().replayed("line a b\n").run("show a"), "b\n")
        console = console_with(a=BOOK)
        self.assertEqual(console.replayed("").run("show a"), "error Unknown")
        self.assertEqual(console.run("show a"), printed(BOOK))

    def test_random(self):
        random = Random(97)
        for _ in range(40):
            book = random_tails(random, 1, 2, random.randint(1, 3))
            lines = printed(book).split("\n")[:-1] + printed(WORLD).split("\n")[:-1] + ["", " ", "nothing"]
            first = Console()
            told = []
            for _ in range(40):
                command = random.choice((
                    *[f"line {random.choice('abc')} {random.choice(lines)}"] * 4, f"clear {random.choice('abcd')}",
                    f"show {random.choice('abcd')}", f"ends {random.choice('abc')} {random.choice('abc')} 0 0",
                    f"nodes {random.choice('abc')} {random.randrange(3)}", "wrong", f"show {random.choice('abc')} ",
                ))
                try:
                    first.run(command)
                    told.append(command)
                except BadSyntax:
                    pass
            self.assertEqual(first.log(), "".join(command + "\n" for command in told))
            second = Console.replayed(first.log())
            self.assertEqual(second.log(), first.log())
            for command in ("show a", "show b", "show c", "show d", "nodes a 0", "ends a b 0 0",
                            *told[:10], "show a", "show b"):
                self.assertEqual(second.run(command), first.run(command))
            self.assertEqual(second.log(), first.log())

    def test_empty_log(self):
        console = Console.replayed("")
        self.assertEqual(console.log(), "")
        self.assertEqual(console.run("show a"), "error Unknown")

    def test_wrong_lines(self):
        self.refuse(0, "\n")
        self.refuse(0, "wrong\n")
        self.refuse(0, "wrong\nshow a\n")
        self.refuse(1, "show a\n\n")
        self.refuse(1, "show a\nwrong\nwrong\n")
        self.refuse(2, "show a\nline a \nline a\nshow a\n")
        self.refuse(1, "show a\n show a\n")
        self.refuse(1, "show a\nshow a\r\n")
        self.refuse(3, "show a\nline a b\nclear a\nshow abcdefghijklm\n")
        self.refuse(0, "wrong\nshow a")
        self.refuse(1, "show a\nwrong\nshow a")

    def test_no_line_feed_at_the_end(self):
        self.refuse(0, "show a")
        self.refuse(0, "wrong")
        self.refuse(0, " ")
        self.refuse(1, "show a\nshow a")
        self.refuse(1, "show a\nwrong")
        self.refuse(2, "show a\nline a b\n ")
        self.refuse(3, "show a\nline a b\nclear a\nline a c")

    def test_no_string(self):
        for wrong in (None, True, 0, (), [], ("show a\n",), ["show a"], BOOK, 10 ** 300):
            self.refuse(1, wrong, BadValue)

    def test_lines_are_ended_by_line_feeds_alone(self):
        console = Console.replayed("line a x\x0by\nline a x\x0cy\n")
        self.assertEqual(console.run("show a"), "x\x0by\nx\x0cy\n")

    def test_long_log(self):
        log = "".join(f"line a {'task' if at else 'book 0 1'}\n" for at in range(3000)) + "nodes a 0\n"
        console = Console.replayed(log)
        self.assertEqual(console.log(), log)
        self.assertEqual(console.run("nodes a 0"), "error BadValue")
        self.assertEqual(len(console.run("show a").split("\n")), 3001)
