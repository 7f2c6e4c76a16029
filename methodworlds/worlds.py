"""Worlds: states with their facts, and what each deed leads to."""

from methodworlds.books import Book, MOST_DEEDS, MOST_FACTS
from methodworlds.conditions import every_facts, holds, is_condition
from methodworlds.errors import BadState, BadValue
from methodworlds.kinds import are_ascending_numbers, are_facts, is_between, is_number, is_row, plain
from methodworlds.strings import is_string

MOST_STATES = 16


def are_moves(value, deeds, states):
    """Whether value tells of so many deeds to which of so many states they lead, or None."""
    if not is_row(value, deeds, deeds):
        return False
    return all([to is None or is_number(to, states) for to in value])


def need_states(states, facts):
    if not is_row(states, 1, MOST_STATES):
        raise BadValue(2)
    for at, each in enumerate(states):
        if not are_facts(each, facts):
            raise BadState(at)


def need_moves(moves, states):
    if not is_row(moves, states, states):
        raise BadValue(3)
    if not is_row(moves[0], 1, MOST_DEEDS):
        raise BadState(0)
    for at, each in enumerate(moves):
        if not are_moves(each, len(moves[0]), states):
            raise BadState(at)


class World:
    """States, each with the facts that hold in it, and for each state and deed the state behind, or None."""

    def __init__(self, facts, states, moves):
        if not is_between(facts, 0, MOST_FACTS):
            raise BadValue(1)
        need_states(states, facts)
        need_moves(moves, len(states))
        self._facts = facts
        self._states = plain(states)
        self._moves = plain(moves)

    @property
    def facts(self):
        """How many facts there are."""
        return self._facts

    @property
    def states(self):
        """For each state a tuple that says of each fact whether it holds."""
        return self._states

    @property
    def moves(self):
        """For each state a tuple with, for each deed, the state to which it leads, or None."""
        return self._moves

    @property
    def deeds(self):
        """How many deeds there are."""
        return len(self._moves[0])

    def __len__(self):
        return len(self._states)

    def __eq__(self, other):
        if not isinstance(other, World):
            return False
        return self.facts == other.facts and self.states == other.states and self.moves == other.moves


def is_deed_rule(value, facts):
    """Whether value is a triple (needs, sets, clears) for so many facts."""
    if not is_row(value, 3, 3):
        return False
    needs, sets, clears = value
    if not is_condition(needs, facts):
        return False
    if not are_ascending_numbers(sets, facts) or not are_ascending_numbers(clears, facts):
        return False
    return not any([fact in clears for fact in sets])


def changed(held, rule):
    """The facts that hold behind a deed, for those that hold ahead of it."""
    _, sets, clears = rule
    return [fact in sets or each and fact not in clears for fact, each in enumerate(held)]


def facts_world(facts, deeds):
    """The world of all ways in which the facts may hold, each deed a triple (needs, sets, clears)."""
    if not is_between(facts, 0, MOST_FACTS):
        raise BadValue(1)
    if not is_row(deeds, 1, MOST_DEEDS) or not all([is_deed_rule(rule, facts) for rule in deeds]):
        raise BadValue(2)
    states = every_facts(facts)
    moves = []
    for held in states:
        moves.append([states.index(changed(held, rule)) if holds(rule[0], held) else None for rule in deeds])
    return World(facts, states, moves)


def world_of(book, string):
    """The world whose states are, in a line, those of a string for the book."""
    if not isinstance(book, Book):
        raise BadValue(1)
    # A line has one state more than deeds, and a world may not have more states than it may.
    if not is_string(book, string) or len(string[1]) >= MOST_STATES:
        raise BadValue(2)
    facts, deeds = string
    moves = [[None] * book.deeds for _ in facts]
    for state, deed in enumerate(deeds):
        moves[state][deed] = state + 1
    return World(book.facts, facts, moves)
