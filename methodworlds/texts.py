"""Books and worlds as texts, and texts read again."""

from methodworlds.books import Book
from methodworlds.errors import BadSyntax, BadValue
from methodworlds.words import is_made_of, is_number_word
from methodworlds.worlds import World

STEP_LETTERS = {"deed": "d", "task": "t"}
STEP_WORDS = {"d": "deed", "t": "task"}
NO_FACTS = "-"
NOWHERE = "x"


def method_words(method):
    condition, steps = method
    facts = [("y" if wanted else "n") + str(fact) for fact, wanted in condition]
    return ["method", *facts, ":", *[STEP_LETTERS[word] + str(number) for word, number in steps]]


def book_rows(book):
    """The words of each line of a book's text."""
    rows = [["book", str(book.facts), str(book.deeds)]]
    for methods in book.tasks:
        rows.append(["task"])
        rows.extend([method_words(method) for method in methods])
    return rows


def state_words(held, moves):
    facts = "".join(["1" if holds else "0" for holds in held])
    return ["state", facts or NO_FACTS, *[NOWHERE if to is None else str(to) for to in moves]]


def world_rows(world):
    """The words of each line of a world's text."""
    return [["world", str(world.facts)], *[state_words(held, to) for held, to in zip(world.states, world.moves)]]


def printed(value):
    """The text of a book or a world."""
    if not isinstance(value, (Book, World)):
        raise BadValue(1)
    rows = book_rows(value) if isinstance(value, Book) else world_rows(value)
    return "".join([" ".join(words) + "\n" for words in rows])


def is_first_row(words):
    """Whether the words are those of the first line of a text."""
    if not all([is_number_word(word) for word in words[1:]]):
        return False
    return words[0] == "book" and len(words) == 3 or words[0] == "world" and len(words) == 2


def is_lettered(word, letters):
    """Whether the word is one of the letters and a number behind it."""
    return word[:1] in letters and is_number_word(word[1:])


def is_method_row(words):
    if words[0] != "method" or ":" not in words:
        return False
    at = words.index(":")
    if not all([is_lettered(word, ("y", "n")) for word in words[1:at]]):
        return False
    return all([is_lettered(word, ("d", "t")) for word in words[at + 1:]])


def is_state_row(words):
    if words[0] != "state" or len(words) < 3:
        return False
    if words[1] != NO_FACTS and not is_made_of(words[1], "01"):
        return False
    return all([word == NOWHERE or is_number_word(word) for word in words[2:]])


def is_right_row(rows, at):
    """Whether the words of a line have the form told for its place; those of the lines ahead of it have it."""
    if at == 0:
        return is_first_row(rows[0])
    if rows[0][0] == "world":
        return is_state_row(rows[at])
    return rows[at] == ["task"] or at > 1 and is_method_row(rows[at])


def read_method(words):
    at = words.index(":")
    condition = [(int(word[1:]), word[0] == "y") for word in words[1:at]]
    return (condition, [(STEP_WORDS[word[0]], int(word[1:])) for word in words[at + 1:]])


def read_book(rows):
    tasks = []
    for words in rows[1:]:
        if words[0] == "task":
            tasks.append([])
        else:
            tasks[-1].append(read_method(words))
    return Book(int(rows[0][1]), int(rows[0][2]), tasks)


def read_world(rows):
    states = [[] if words[1] == NO_FACTS else [sign == "1" for sign in words[1]] for words in rows[1:]]
    moves = [[None if word == NOWHERE else int(word) for word in words[2:]] for words in rows[1:]]
    return World(int(rows[0][1]), states, moves)


def parse(text):
    """The book or the world of a text."""
    if not isinstance(text, str):
        raise BadValue(1)
    lines = text.split("\n")
    # What stands behind the last line feed is no line.
    rows = [line.split(" ") for line in lines[:-1]]
    for at in range(len(rows)):
        if not is_right_row(rows, at):
            raise BadSyntax(at)
    if len(rows) < 2 or lines[-1] != "":
        raise BadSyntax(len(rows))
    return read_book(rows) if rows[0][0] == "book" else read_world(rows)
