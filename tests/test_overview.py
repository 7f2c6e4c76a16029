"""The examples: that of the document's overview, line by line, and those of the README."""

import doctest
import pathlib
import unittest

README = pathlib.Path(__file__).resolve().parent.parent / "README.md"

OVERVIEW = """
    >>> from methodworlds.books import Book
    >>> from methodworlds.worlds import World
    >>> from methodworlds.doing import plan, ends
    >>> from methodworlds.comparing import apart
    >>> book = Book(1, 2, ((((), ()), (((0, False),), (("deed", 0), ("task", 0)))), (((), (("deed", 0),)), ((), ()))))
    >>> world = World(1, ((False,), (True,)), ((1, None), (None, 0)))
    >>> ends(book, world, 0, 0)
    (0, 1)
    >>> plan(book, world, 0, 0, (1,))[0]
    'way'
    >>> len(apart(book, 0, book, 1)[1])
    1
"""


class TestExamples(unittest.TestCase):
    def run_examples(self, text, least):
        test = doctest.DocTestParser().get_doctest(text, {}, "examples", None, 0)
        self.assertGreaterEqual(len(test.examples), least)
        told = []
        result = doctest.DocTestRunner(verbose=False).run(test, out=told.append)
        self.assertEqual(result.failed, 0, "".join(told))

    def test_overview(self):
        self.run_examples(OVERVIEW, 9)

    def test_readme(self):
        self.run_examples(README.read_text(), 20)
