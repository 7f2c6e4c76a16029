"""The errors of the package. Each one keeps what it was created with, which also is its message."""


class MethodError(Exception):
    """The base class of all errors of the package."""


class BadValue(MethodError):
    """An argument is not as told; at is its place, from 1 on."""

    def __init__(self, at):
        self.at = at


class BadState(MethodError):
    """A state of a world is not as told; at is its number."""

    def __init__(self, at):
        self.at = at


class BadSyntax(MethodError):
    """A line of a text or a log does not have its form; at is its number, or 0 for a command."""

    def __init__(self, at):
        self.at = at


class BadMethod(MethodError):
    """A method of a book is not as told: the numbers of its task and of the method."""

    def __init__(self, task, method):
        self.task = task
        self.method = method


class TooMany(MethodError):
    """There are too many of what the word says: "deeds", "nodes" or "methods"."""

    def __init__(self, word):
        self.word = word
