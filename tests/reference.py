"""Slow and plain answers to what the program is asked, made from the document's words alone, and random arguments."""

from itertools import chain, combinations, product
from random import Random

from methodworlds.books import Book
from methodworlds.worlds import World


def deed(number):
    return ("deed", number)


def task(number):
    return ("task", number)


def method(*steps, when=()):
    return (when, steps)


def open_methods(book, world, which, state):
    """The methods that may be taken, each with its number."""
    facts = world.states[state]
    return [
        (number, steps)
        for number, (condition, steps) in enumerate(book.tasks[which])
        if all(facts[fact] is wanted for fact, wanted in condition)
    ]


def every_pair(book, world):
    return list(product(range(len(book.tasks)), range(len(world))))


def follow(world, steps, state, ends_of):
    """The set of states reached behind the steps; ends_of gives the ends of a task from a state."""
    here = {state}
    for word, number in steps:
        if word == "deed":
            here = {world.moves[at][number] for at in here} - {None}
        else:
            here = set(chain.from_iterable(ends_of(number, at) for at in here))
    return here


def slow_ends(book, world):
    """All ends of all tasks from all states, as sets."""
    known = {pair: set() for pair in every_pair(book, world)}
    changed = True
    while changed:
        changed = False
        for which, state in known:
            for _, steps in open_methods(book, world, which, state):
                new = follow(world, steps, state, lambda number, at: known[number, at])
                if not new <= known[which, state]:
                    known[which, state] |= new
                    changed = True
    return known


def slow_courses(book, world, most):
    """All courses of at most so many deeds of all tasks from all states, each with its end, as sets of pairs."""
    known = {pair: set() for pair in every_pair(book, world)}

    def spell(steps, state):
        rows = {((), state)}
        for word, number in steps:
            if word == "deed":
                rows = {(row + (number,), world.moves[at][number]) for row, at in rows}
                rows = {(row, at) for row, at in rows if at is not None}
            else:
                rows = {(row + more, end) for row, at in rows for more, end in known[number, at]}
            rows = {(row, at) for row, at in rows if len(row) <= most}
        return rows

    changed = True
    while changed:
        changed = False
        for which, state in known:
            for _, steps in open_methods(book, world, which, state):
                new = spell(steps, state)
                if not new <= known[which, state]:
                    known[which, state] |= new
                    changed = True
    return known


def slow_deeds(book, world):
    """For each entry that is so, the fewest deeds with which the task can be done."""
    known = {}
    changed = True
    while changed:
        changed = False
        for which, state in every_pair(book, world):
            for _, steps in open_methods(book, world, which, state):
                costs = {state: 0}
                for step in steps:
                    costs = step_costs(world, step, costs, known)
                for end, cost in costs.items():
                    if cost < known.get((which, state, end), cost + 1):
                        known[which, state, end] = cost
                        changed = True
    return known


def step_costs(world, step, costs, known):
    word, number = step
    behind = {}
    for at, cost in costs.items():
        if word == "deed":
            leads = {world.moves[at][number]: 1}
        else:
            leads = {end: known[number, at, end] for end in range(len(world)) if (number, at, end) in known}
        for end, more in leads.items():
            if end is not None and cost + more < behind.get(end, cost + more + 1):
                behind[end] = cost + more
    return behind


def least_table(book, world, which, state):
    """The table of what is come to from the task in the state, with all ends that there are and no others."""
    known = slow_ends(book, world)
    asked = {(which, state)}
    waiting = [(which, state)]

    def ends_of(number, at):
        if (number, at) not in asked:
            asked.add((number, at))
            waiting.append((number, at))
        return known[number, at]

    while waiting:
        one, begun = waiting.pop()
        for _, steps in open_methods(book, world, one, begun):
            follow(world, steps, begun, ends_of)
    return tuple((*pair, tuple(sorted(known[pair]))) for pair in sorted(asked))


def is_closed(book, world, table):
    """Whether the table, of numbers of what there is and in order, is closed."""
    ends = {(one, begun): set(told) for one, begun, told in table}
    asked = []

    def ends_of(number, at):
        asked.append((number, at))
        return ends.get((number, at), set())

    for one, begun in ends:
        for _, steps in open_methods(book, world, one, begun):
            if not follow(world, steps, begun, ends_of) <= ends[one, begun]:
                return False
    return all(pair in ends for pair in asked)


def some_sets(members):
    members = list(members)
    return list(chain.from_iterable(combinations(members, many) for many in range(len(members) + 1)))


def every_table(book, world):
    """Each table for the book and the world, closed or not: for very small ones only."""
    pairs = every_pair(book, world)
    choices = [None, *some_sets(range(len(world)))]
    for chosen in product(choices, repeat=len(pairs)):
        yield tuple((*pair, ends) for pair, ends in zip(pairs, chosen) if ends is not None)


def part_deeds(book, world, proof):
    """How many deeds each part of a proof has; raises AssertionError if a part is not right."""
    counts = []
    for at, (which, state, end, number, places) in enumerate(proof):
        open_ones = dict(open_methods(book, world, which, state))
        assert number in open_ones, (at, "method")
        named = list(places)
        here = state
        count = 0
        for word, what in open_ones[number]:
            if word == "deed":
                count += 1
                here = world.moves[here][what]
                assert here is not None, (at, "deed")
            else:
                place = named.pop(0)
                assert 0 <= place < at, (at, "place")
                assert proof[place][:2] == (what, here), (at, "named part")
                count += counts[place]
                here = proof[place][2]
        assert not named and here == end, (at, "end")
        counts.append(count)
    return counts


def is_plain(value):
    """Whether the value has plain tuples, integers, strings, True, False and None at every level, and nothing else."""
    if type(value) is tuple:
        return all(is_plain(each) for each in value)
    return value is None or type(value) in (int, bool, str)


def as_lists(value):
    """The value with lists in the place of its tuples, at every level."""
    return [as_lists(each) for each in value] if isinstance(value, tuple) else value


def random_condition(random, facts):
    return tuple((fact, random.random() < 0.5) for fact in range(facts) if random.random() < 0.4)


def random_book(random, facts, deeds, tasks, most_methods=3, most_steps=3):
    def step():
        return task(random.randrange(tasks)) if random.random() < 0.55 else deed(random.randrange(deeds))

    def some_method():
        steps = tuple(step() for _ in range(random.randint(0, most_steps)))
        return (random_condition(random, facts), steps)

    told = tuple(tuple(some_method() for _ in range(random.randint(0, most_methods))) for _ in range(tasks))
    return Book(facts, deeds, told)


def random_world(random, facts, deeds, states, blocked=0.3):
    def move():
        return None if random.random() < blocked else random.randrange(states)

    held = tuple(tuple(random.random() < 0.5 for _ in range(facts)) for _ in range(states))
    return World(facts, held, tuple(tuple(move() for _ in range(deeds)) for _ in range(states)))


def random_cases(many, seed, most_tasks=4, most_states=5):
    """So many pairs of a book and a world that fits it, the same ones for each seed."""
    random = Random(seed)
    for _ in range(many):
        facts, deeds = random.randint(0, 2), random.randint(1, 3)
        tasks, states = random.randint(1, most_tasks), random.randint(1, most_states)
        book = random_book(random, facts, deeds, tasks)
        yield book, random_world(random, facts, deeds, states, random.choice((0.0, 0.3, 0.6)))
