"""Strings for a book: rows of deeds, with the facts ahead of each deed and behind the last one."""

from methodworlds.kinds import are_facts, are_numbers, is_row


def is_string(book, value):
    if not is_row(value, 2, 2):
        return False
    facts, deeds = value
    if not are_numbers(deeds, book.deeds) or not is_row(facts, len(deeds) + 1, len(deeds) + 1):
        return False
    return all([are_facts(each, book.facts) for each in facts])
