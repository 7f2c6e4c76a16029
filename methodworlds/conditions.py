"""Conditions: which facts are wanted, and which are wanted not to hold."""

from methodworlds.kinds import is_ascending, is_number, is_row, is_sequence


def is_wanted_fact(value, facts):
    return is_row(value, 2, 2) and is_number(value[0], facts) and isinstance(value[1], bool)


def is_condition(value, facts):
    """Whether value is a condition for so many facts."""
    if not is_sequence(value) or not all([is_wanted_fact(pair, facts) for pair in value]):
        return False
    return is_ascending([pair[0] for pair in value])


def holds(condition, facts):
    """Whether each fact of the condition is as wanted among the facts."""
    return all([facts[fact] == wanted for fact, wanted in condition])


def every_facts(facts):
    """All ways in which so many facts may hold; in number i of them fact j holds if bit j of i is 1."""
    return [[at >> fact & 1 == 1 for fact in range(facts)] for at in range(1 << facts)]
