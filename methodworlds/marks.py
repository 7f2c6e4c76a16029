"""Marks: how far the methods of a book are done, kept for all of its methods at once.

A mark is a place in a method: ahead of its first step, between two steps, or behind the last one. The marks of a book
are numbered in a row, method by method, so that a step leads from a mark to the next number. A set of marks is an
integer with bit i for mark i.
"""

from methodworlds.conditions import holds


class Marks:
    """The marks of a book, and what leads from one to another."""

    def __init__(self, book):
        self.firsts = []
        self.lasts = [0] * len(book.tasks)
        self.at_deeds = [0] * book.deeds
        self.at_tasks = [0] * len(book.tasks)
        mark = 0
        for task, methods in enumerate(book.tasks):
            for condition, steps in methods:
                self.firsts.append((condition, 1 << mark))
                for word, number in steps:
                    if word == "deed":
                        self.at_deeds[number] |= 1 << mark
                    else:
                        self.at_tasks[number] |= 1 << mark
                    mark += 1
                self.lasts[task] |= 1 << mark
                mark += 1

    def begun(self, facts):
        """The marks ahead of the first steps of all methods that may be taken with these facts."""
        found = 0
        for condition, mark in self.firsts:
            if holds(condition, facts):
                found |= mark
        return found

    def behind_deed(self, marks, deed):
        """The marks behind the deed, where it is the next step at one of these marks."""
        return (marks & self.at_deeds[deed]) << 1

    def behind_tasks(self, marks, tasks):
        """The marks behind any of the tasks, where it is the next step at one of these marks."""
        found = 0
        for task in tasks:
            found |= (marks & self.at_tasks[task]) << 1
        return found

    def ended(self, marks):
        """The tasks that have a method whose end is among these marks."""
        return [task for task, last in enumerate(self.lasts) if marks & last]
