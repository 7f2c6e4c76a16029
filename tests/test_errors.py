"""Point [13]: the errors, their bases and what they keep."""

import unittest

from methodworlds import errors
from methodworlds.errors import BadMethod, BadState, BadSyntax, BadValue, MethodError, TooMany


class TestErrors(unittest.TestCase):
    def test_bases(self):
        self.assertEqual(MethodError.__bases__, (Exception,))
        for kind in (BadValue, BadState, BadSyntax, BadMethod, TooMany):
            self.assertEqual(kind.__bases__, (MethodError,), kind)

    def test_names(self):
        for kind in (MethodError, BadValue, BadState, BadSyntax, BadMethod, TooMany):
            self.assertEqual(kind.__module__, "methodworlds.errors")
            self.assertIs(getattr(errors, kind.__name__), kind)

    def test_one_place(self):
        for kind in (BadValue, BadState, BadSyntax):
            for at in (0, 1, 7):
                self.assertEqual(kind(at).at, at)
                self.assertEqual(kind(at=at).at, at)
            self.assertRaises(TypeError, kind)
            self.assertRaises(TypeError, kind, 1, 2)

    def test_method(self):
        for error in (BadMethod(3, 4), BadMethod(task=3, method=4), BadMethod(3, method=4)):
            self.assertEqual((error.task, error.method), (3, 4))

    def test_word(self):
        for word in ("deeds", "nodes", "methods"):
            self.assertEqual(TooMany(word).word, word)
            self.assertEqual(TooMany(word=word).word, word)

    def test_caught_by_base(self):
        for error in (BadValue(1), BadState(0), BadSyntax(0), BadMethod(0, 0), TooMany("nodes"), MethodError("told")):
            with self.assertRaises(MethodError):
                raise error
