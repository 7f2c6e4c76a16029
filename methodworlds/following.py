"""Following the steps of methods through a world, from states to the states behind them.

A set of states is an integer here, with bit i for state i. A table is a dict that gives, for a pair (task, state),
the set of the ends that are known of the task from this state.
"""

from methodworlds.conditions import holds


def taken(book, world, task, state):
    """The numbers of the methods of the task that may be taken in the state."""
    facts = world.states[state]
    return [method for method, (condition, _) in enumerate(book.tasks[task]) if holds(condition, facts)]


def members(states):
    """The numbers of the states of a set, ascending."""
    return [state for state in range(states.bit_length()) if states >> state & 1]


def behind(world, table, step, states):
    """The set of the states behind a step that begins in any state of a set.

    A task that is come to in a state gets its place in the table.
    """
    word, number = step
    found = 0
    for state in members(states):
        if word == "task":
            found |= table.setdefault((number, state), 0)
        elif world.moves[state][number] is not None:
            found |= 1 << world.moves[state][number]
    return found


def followed(book, world, table, task, state):
    """The set of the ends of a task from a state, as far as the table tells those of the tasks in its methods."""
    found = 0
    for method in taken(book, world, task, state):
        states = 1 << state
        for step in book.tasks[task][method][1]:
            states = behind(world, table, step, states)
        found |= states
    return found


def least_table(book, world, task, state):
    """The table of the task from the state and of all that is come to, with no more ends than there are."""
    table = {(task, state): 0}
    while True:
        before = {key: table[key] for key in table}
        for key in list(table):
            table[key] = followed(book, world, table, key[0], key[1])
        if table == before:
            return table
