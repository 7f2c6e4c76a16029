"""Which values are integers, sequences, numbers of something, or facts; and plain copies of them."""


def is_integer(value):
    return isinstance(value, int) and not isinstance(value, bool)


def is_between(value, low, high):
    """Whether value is an integer from low to high."""
    return is_integer(value) and low <= value <= high


def is_number(value, many):
    """Whether value is the number of one of so many."""
    return is_between(value, 0, many - 1)


def is_sequence(value):
    return isinstance(value, (list, tuple))


def is_row(value, low, high):
    """Whether value is a sequence that has from low to high members."""
    return is_sequence(value) and low <= len(value) <= high


def is_ascending(row):
    return all([row[at] < row[at + 1] for at in range(len(row) - 1)])


def are_numbers(value, many):
    return is_sequence(value) and all([is_number(each, many) for each in value])


def are_ascending_numbers(value, many):
    return are_numbers(value, many) and is_ascending(value)


def are_facts(value, many):
    """Whether value is a sequence of so many True or False."""
    return is_row(value, many, many) and all([isinstance(each, bool) for each in value])


def plain(value):
    """The value with plain tuples in the place of its sequences, at every level."""
    if is_sequence(value):
        return tuple([plain(each) for each in value])
    return value
