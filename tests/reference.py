"""Slow and plain answers to what the program is asked, made from the document's words alone, and random arguments."""

from itertools import chain, combinations, product
from random import Random

from methodworlds.books import Book, is_tails
from methodworlds.worlds import World


def deed(number):
    return ("deed", number)


def task(number):
    return ("task", number)


def method(*steps, when=()):
    return (when, steps)


def open_methods(book, world, which, state):
    """The methods that may be taken, each with its number."""
    facts = world.states[state]
    return [
        (number, steps)
        for number, (condition, steps) in enumerate(book.tasks[which])
        if all(facts[fact] is wanted for fact, wanted in condition)
    ]


def every_pair(book, world):
    return list(product(range(len(book.tasks)), range(len(world))))


def follow(world, steps, state, ends_of):
    """The set of states reached behind the steps; ends_of gives the ends of a task from a state."""
    here = {state}
    for word, number in steps:
        if word == "deed":
            here = {world.moves[at][number] for at in here} - {None}
        else:
            here = set(chain.from_iterable(ends_of(number, at) for at in here))
    return here


def slow_ends(book, world):
    """All ends of all tasks from all states, as sets."""
    known = {pair: set() for pair in every_pair(book, world)}
    changed = True
    while changed:
        changed = False
        for which, state in known:
            for _, steps in open_methods(book, world, which, state):
                new = follow(world, steps, state, lambda number, at: known[number, at])
                if not new <= known[which, state]:
                    known[which, state] |= new
                    changed = True
    return known


def slow_courses(book, world, most):
    """All courses of at most so many deeds of all tasks from all states, each with its end, as sets of pairs."""
    known = {pair: set() for pair in every_pair(book, world)}

    def spell(steps, state):
        rows = {((), state)}
        for word, number in steps:
            if word == "deed":
                rows = {(row + (number,), world.moves[at][number]) for row, at in rows}
                rows = {(row, at) for row, at in rows if at is not None}
            else:
                rows = {(row + more, end) for row, at in rows for more, end in known[number, at]}
            rows = {(row, at) for row, at in rows if len(row) <= most}
        return rows

    changed = True
    while changed:
        changed = False
        for which, state in known:
            for _, steps in open_methods(book, world, which, state):
                new = spell(steps, state)
                if not new <= known[which, state]:
                    known[which, state] |= new
                    changed = True
    return known


def slow_deeds(book, world):
    """For each entry that is so, the fewest deeds with which the task can be done."""
    known = {}
    changed = True
    while changed:
        changed = False
        for which, state in every_pair(book, world):
            for _, steps in open_methods(book, world, which, state):
                costs = {state: 0}
                for step in steps:
                    costs = step_costs(world, step, costs, known)
                for end, cost in costs.items():
                    if cost < known.get((which, state, end), cost + 1):
                        known[which, state, end] = cost
                        changed = True
    return known


def step_costs(world, step, costs, known):
    word, number = step
    behind = {}
    for at, cost in costs.items():
        if word == "deed":
            leads = {world.moves[at][number]: 1}
        else:
            leads = {end: known[number, at, end] for end in range(len(world)) if (number, at, end) in known}
        for end, more in leads.items():
            if end is not None and cost + more < behind.get(end, cost + more + 1):
                behind[end] = cost + more
    return behind


def least_table(book, world, which, state):
    """The table of what is come to from the task in the state, with all ends that there are and no others."""
    known = slow_ends(book, world)
    asked = {(which, state)}
    waiting = [(which, state)]

    def ends_of(number, at):
        if (number, at) not in asked:
            asked.add((number, at))
            waiting.append((number, at))
        return known[number, at]

    while waiting:
        one, begun = waiting.pop()
        for _, steps in open_methods(book, world, one, begun):
            follow(world, steps, begun, ends_of)
    return tuple((*pair, tuple(sorted(known[pair]))) for pair in sorted(asked))


def is_closed(book, world, table):
    """Whether the table, of numbers of what there is and in order, is closed."""
    ends = {(one, begun): set(told) for one, begun, told in table}
    asked = []

    def ends_of(number, at):
        asked.append((number, at))
        return ends.get((number, at), set())

    for one, begun in ends:
        for _, steps in open_methods(book, world, one, begun):
            if not follow(world, steps, begun, ends_of) <= ends[one, begun]:
                return False
    return all(pair in ends for pair in asked)


def some_sets(members):
    members = list(members)
    return list(chain.from_iterable(combinations(members, many) for many in range(len(members) + 1)))


def every_table(book, world):
    """Each table for the book and the world, closed or not: for very small ones only."""
    pairs = every_pair(book, world)
    choices = [None, *some_sets(range(len(world)))]
    for chosen in product(choices, repeat=len(pairs)):
        yield tuple((*pair, ends) for pair, ends in zip(pairs, chosen) if ends is not None)


def part_deeds(book, world, proof):
    """How many deeds each part of a proof has; raises AssertionError if a part is not right."""
    counts = []
    for at, (which, state, end, number, places) in enumerate(proof):
        open_ones = dict(open_methods(book, world, which, state))
        assert number in open_ones, (at, "method")
        named = list(places)
        here = state
        count = 0
        for word, what in open_ones[number]:
            if word == "deed":
                count += 1
                here = world.moves[here][what]
                assert here is not None, (at, "deed")
            else:
                place = named.pop(0)
                assert 0 <= place < at, (at, "place")
                assert proof[place][:2] == (what, here), (at, "named part")
                count += counts[place]
                here = proof[place][2]
        assert not named and here == end, (at, "end")
        counts.append(count)
    return counts


def is_list(value):
    return type(value) in (list, tuple)


def is_whole(value, many):
    return type(value) is int and 0 <= value < many


def slow_reached(world, parts, steps, state, places):
    """The state behind the steps, tasks done as the parts tell that places name; None if there is none."""
    tasks = [what for word, what in steps if word == "task"]
    if not is_list(places) or len(places) != len(tasks) or not all(is_whole(each, len(parts)) for each in places):
        return None
    named = [parts[place] for place in places]
    for word, what in steps:
        if word == "deed":
            state = world.moves[state][what]
        else:
            one, begun, end = named.pop(0)[:3]
            state = end if one == what and begun == state else None
        if state is None:
            return None
    return state


def taken_steps(book, world, which, state, number):
    """The steps of a method that may be taken; None if one of the numbers is of nothing there is, or it may not be."""
    if not is_whole(which, len(book.tasks)) or not is_whole(state, len(world)) or type(number) is not int:
        return None
    return dict(open_methods(book, world, which, state)).get(number)


def slow_proof(book, world, proof):
    """Whether the value is a sequence of parts that are right."""
    if not is_list(proof):
        return False
    for at, part in enumerate(proof):
        if not is_list(part) or len(part) != 5:
            return False
        which, state, end, number, places = part
        steps = taken_steps(book, world, which, state, number)
        if steps is None or not is_whole(end, len(world)):
            return False
        if slow_reached(world, proof[:at], steps, state, places) != end:
            return False
    return True


def slow_way_holds(book, world, which, state, wanted, proof):
    if not slow_proof(book, world, proof) or not proof:
        return False
    return proof[-1][0] == which and proof[-1][1] == state and proof[-1][2] in wanted


def slow_table_holds(book, world, which, state, wanted, table):
    if not is_list(table):
        return False
    for row in table:
        if not is_list(row) or len(row) != 3 or not is_list(row[2]):
            return False
        if not is_whole(row[0], len(book.tasks)) or not is_whole(row[1], len(world)):
            return False
        if not all(is_whole(end, len(world)) for end in row[2]) or list(row[2]) != sorted(set(row[2])):
            return False
    pairs = [(row[0], row[1]) for row in table]
    if pairs != sorted(set(pairs)) or (which, state) not in pairs or not is_closed(book, world, table):
        return False
    return not set(table[pairs.index((which, state))][2]) & set(wanted)


def is_dead(book, world, step, state):
    """Whether one is stuck at the step in the state."""
    word, what = step
    return world.moves[state][what] is None if word == "deed" else not open_methods(book, world, what, state)


def slow_stuck(book, world, which, state):
    """Whether somebody can get stuck: whether a task or a deed is come to at which one is."""
    known = slow_ends(book, world)
    spots = [(task(which), state)]
    for (word, what), here in spots:
        if word == "task":
            for _, steps in open_methods(book, world, what, here):
                for at, step in enumerate(steps):
                    behind = follow(world, steps[:at], here, lambda number, begun: known[number, begun])
                    spots.extend((step, end) for end in behind if (step, end) not in spots)
    return any(is_dead(book, world, step, here) for step, here in spots)


def played_stuck(book, world, which, state, most):
    """Whether one gets stuck in a play of breaking down, step by step; so many turns of such plays are looked at."""
    turns = [(state, (task(which),))]
    for here, left in turns:
        if not left:
            continue
        if is_dead(book, world, left[0], here):
            return True
        word, what = left[0]
        if word == "deed":
            new = [(world.moves[here][what], left[1:])]
        else:
            new = [(here, steps + left[1:]) for _, steps in open_methods(book, world, what, here)]
        turns.extend(turn for turn in new if len(turns) < most and turn not in turns)
    return False


def slow_stuck_holds(book, world, which, state, value):
    if not is_list(value) or len(value) != 2 or not is_list(value[0]) or not slow_proof(book, world, value[1]):
        return False
    places, proof = value
    if not open_methods(book, world, which, state):
        return len(places) == 0
    due = (which, state)
    for at, place in enumerate(places):
        if not is_list(place) or len(place) != 5:
            return False
        one, begun, number, at_step, used = place
        steps = taken_steps(book, world, one, begun, number)
        if steps is None or (one, begun) != due or not is_whole(at_step, len(steps)):
            return False
        here = slow_reached(world, proof, steps[:at_step], begun, used)
        if here is None:
            return False
        if at == len(places) - 1:
            return is_dead(book, world, steps[at_step], here)
        if steps[at_step][0] != "task":
            return False
        due = (steps[at_step][1], here)
    return False


CLAMP = 10 ** 9


def low_ways(book, world, most, height):
    """How many ways there are that nest at most so many methods: for (task, state) by ends and deeds, up to CLAMP."""
    known = {pair: {} for pair in every_pair(book, world)}
    for _ in range(height):
        before = known
        known = {}
        for which, state in before:
            total = {}
            for _, steps in open_methods(book, world, which, state):
                for key, count in low_rows(world, steps, state, before, most).items():
                    total[key] = min(CLAMP, total.get(key, 0) + count)
            known[which, state] = total
    return known


def low_rows(world, steps, state, known, most):
    rows = {(state, 0): 1}
    for word, what in steps:
        new = {}
        for (here, deeds), count in rows.items():
            more = {(world.moves[here][what], 1): 1} if word == "deed" else known[what, here]
            for (end, further), many in more.items():
                if end is not None and deeds + further <= most:
                    key = (end, deeds + further)
                    new[key] = min(CLAMP, new.get(key, 0) + count * many)
        rows = new
    return rows


class Line:
    """A world whose states are in a line, as many as needed."""

    def __init__(self, book, string):
        self.states, deeds = string
        self.moves = [[None] * book.deeds for _ in self.states]
        for state, number in enumerate(deeds):
            self.moves[state][number] = state + 1

    def __len__(self):
        return len(self.states)


def slow_accepts(book, which, string):
    return len(string[1]) in slow_ends(book, Line(book, string))[which, 0]


def facts_at(facts, at):
    return tuple((at // 2 ** fact) % 2 == 1 for fact in range(facts))


def slow_sets(book, which, most=10 ** 6):
    """The machine of the sets of rows of a task, None once there are more than told; and the most rows come about."""
    first = frozenset([(task(which),)])
    sets = [first]
    nodes = []
    rows_most = 0
    for rows in sets:
        node = []
        for at in range(2 ** book.facts):
            found = come_about(book, rows, facts_at(book.facts, at), most)
            rows_most = max(rows_most, len(found))
            if len(found) > most or len(sets) > most:
                return None, rows_most
            leads = []
            for number in range(book.deeds):
                behind = frozenset(row[1:] for row in found if row and row[0] == deed(number))
                if behind and behind not in sets:
                    sets.append(behind)
                leads.append(sets.index(behind) if behind else None)
            node.append((() in found, tuple(leads)))
        nodes.append(tuple(node))
    return tuple(nodes), rows_most


def come_about(book, rows, facts, most):
    found = list(rows)
    known = set(found)
    for row in found:
        if row and row[0][0] == "task" and len(found) <= most:
            for condition, steps in book.tasks[row[0][1]]:
                new = steps + row[1:]
                if all(facts[fact] is wanted for fact, wanted in condition) and new not in known:
                    known.add(new)
                    found.append(new)
    return known


def machine_accepts(machine, string):
    node = 0
    facts, deeds = string
    numbers = [sum(2 ** fact for fact, held in enumerate(each) if held) for each in facts]
    for number, held in zip(deeds, numbers):
        node = machine[node][held][1][number]
        if node is None:
            return False
    return machine[node][numbers[-1]][0]


def same_strings(one, other):
    """Whether two machines accept the same strings."""
    nothing = tuple((False, (None,) * len(leads)) for _, leads in one[0])
    pairs = [(0, 0)]
    for first, second in pairs:
        left = nothing if first is None else one[first]
        right = nothing if second is None else other[second]
        for (ends, leads), (other_ends, other_leads) in zip(left, right):
            if ends is not other_ends:
                return False
            pairs.extend(pair for pair in zip(leads, other_leads) if pair not in pairs)
    return True


def fewest_deeds_apart(one, other, first_only=False):
    """How many deeds a shortest string has that tells two machines apart, looked for length by length; None for none.

    Where first_only is so, it is the first machine that is to accept the string.
    """
    nothing = tuple((False, (None,) * len(leads)) for _, leads in one[0])
    layer, seen = {(0, 0)}, set()
    many = 0
    while not layer <= seen:
        seen |= layer
        behind = set()
        for first, second in layer:
            left = nothing if first is None else one[first]
            right = nothing if second is None else other[second]
            for (ends, leads), (other_ends, other_leads) in zip(left, right):
                if ends > other_ends or ends < other_ends and not first_only:
                    return many
                behind |= set(zip(leads, other_leads))
        layer = behind
        many += 1
    return None


def slow_own(book, which):
    """The own methods of a task, ascending."""
    tasks = [which]
    for one in tasks:
        for _, steps in book.tasks[one]:
            tasks.extend(number for word, number in steps if word == "task" and number not in tasks)
    return [(one, at) for one in sorted(set(tasks)) for at in range(len(book.tasks[one]))]


def slow_alone(book, which, choice):
    """The machine of the sets of a task with these of its own methods alone."""
    gone = set(slow_own(book, which)) - set(choice)
    tasks = [[each for at, each in enumerate(methods) if (one, at) not in gone]
             for one, methods in enumerate(book.tasks)]
    return slow_sets(Book(book.facts, book.deeds, tasks), which)[0]


def slow_needless(book, which):
    whole = slow_sets(book, which)[0]
    found = []
    for one, methods in enumerate(book.tasks):
        for at in range(len(methods)):
            tasks = [*book.tasks[:one], (*methods[:at], *methods[at + 1:]), *book.tasks[one + 1:]]
            if same_strings(whole, slow_sets(Book(book.facts, book.deeds, tasks), which)[0]):
                found.append((one, at))
    return tuple(found)


def slow_fewest(book, which):
    """All choices of as few own methods as can be."""
    whole = slow_sets(book, which)[0]
    for many in range(len(slow_own(book, which)) + 1):
        found = [choice for choice in combinations(slow_own(book, which), many)
                 if same_strings(whole, slow_alone(book, which, choice))]
        if found:
            return found


def is_slow_string(book, value):
    if not is_list(value) or len(value) != 2 or not is_list(value[0]) or not is_list(value[1]):
        return False
    facts, deeds = value
    if len(facts) != len(deeds) + 1 or not all(is_whole(each, book.deeds) for each in deeds):
        return False
    return all(is_list(each) and len(each) == book.facts and all(type(held) is bool for held in each) for each in facts)


def are_places(value):
    return is_list(value) and all(is_list(each) and len(each) == 2 and type(each[0]) is type(each[1]) is int
                                  for each in value)


def slow_fewest_holds(book, which, kept, proofs):
    own = slow_own(book, which)
    if not are_places(kept) or not is_list(proofs):
        return False
    pairs = [tuple(pair) for pair in kept]
    whole = slow_sets(book, which)[0]
    if pairs != [pair for pair in own if pair in pairs] or not same_strings(whole, slow_alone(book, which, pairs)):
        return False
    choices = list(combinations(own, len(pairs) - 1)) if pairs else []
    if len(proofs) != len(choices):
        return False
    for choice, proof in zip(choices, proofs):
        if not is_list(proof) or len(proof) != 2 or not are_places(proof[0]) or not is_slow_string(book, proof[1]):
            return False
        if tuple(tuple(pair) for pair in proof[0]) != choice or not machine_accepts(whole, proof[1]):
            return False
        if machine_accepts(slow_alone(book, which, choice), proof[1]):
            return False
    return True


def rooted(machine, at):
    """The machine with another first node, the numbers being exchanged."""
    def number(to):
        return {0: at, at: 0}.get(to, to)

    order = [machine[number(to)] for to in range(len(machine))]
    return tuple(tuple((ends, tuple(map(number, leads))) for ends, leads in node) for node in order)


def is_normal(machine):
    """Whether nodes have accepted endings, no two the same ones, and are numbered as they are first come to."""
    nothing = ((tuple((False, (None,) * len(leads)) for _, leads in machine[0])),)
    come_to = [0]
    for node in come_to:
        for _, leads in machine[node]:
            for to in leads:
                if to is not None and to not in come_to:
                    come_to.append(to)
    if come_to != list(range(len(machine))):
        return False
    roots = [rooted(machine, at) for at in come_to]
    if len(machine) > 1 and any(same_strings(root, nothing) for root in roots):
        return False
    if len(machine) == 1 and same_strings(machine, nothing) and machine != nothing:
        return False
    return not any(same_strings(one, other) for one, other in combinations(roots, 2))


def every_string(book, most):
    """All strings for the book of at most so many deeds."""
    facts = [facts_at(book.facts, at) for at in range(2 ** book.facts)]
    for many in range(most + 1):
        yield from product(product(facts, repeat=many + 1), product(range(book.deeds), repeat=many))


def random_string(random, book, most):
    many = random.randint(0, most)
    facts = tuple(facts_at(book.facts, random.randrange(2 ** book.facts)) for _ in range(many + 1))
    return facts, tuple(random.randrange(book.deeds) for _ in range(many))


def random_tails(random, facts, deeds, tasks, most_methods=3, most_steps=3):
    """A book with tails only: a task ahead of the last step has a higher number, and so have all to which it leads."""
    cut = random.randint(0, tasks)

    def step(which, last):
        # Tasks from cut on lead to higher ones only; those below it may come back to each other as last steps.
        low = 0 if last and which < cut else max(which + 1, cut)
        return task(random.randrange(low, tasks)) if low < tasks and random.random() < 0.5 else None

    def some_method(which):
        many = random.randint(0, most_steps)
        steps = [step(which, at == many - 1) or deed(random.randrange(deeds)) for at in range(many)]
        return (random_condition(random, facts), tuple(steps))

    told = [tuple(some_method(which) for _ in range(random.randint(0, most_methods))) for which in range(tasks)]
    return Book(facts, deeds, told)


def tails_cases(many, seed, most_tasks=4):
    random = Random(seed)
    for _ in range(many):
        yield random_tails(random, random.randint(0, 2), random.randint(1, 3), random.randint(1, most_tasks))


def near(random, book):
    """A book with tails only that is like the book but for one change, which need not be one that matters."""
    while True:
        tasks = [list(methods) for methods in book.tasks]
        which = random.randrange(len(tasks))
        methods = tasks[which]
        at = random.randrange(len(methods)) if methods else 0
        turn = random.randrange(6) if methods else 0
        if turn == 0:
            methods.insert(at, method(deed(random.randrange(book.deeds)), when=random_condition(random, book.facts)))
        elif turn == 1:
            del methods[at]
        elif turn == 2:
            methods.insert(random.randint(0, len(methods)), methods[at])
        elif turn == 3:
            methods.reverse()
        elif turn == 4:
            methods[at] = (random_condition(random, book.facts), methods[at][1])
        else:
            steps = list(methods[at][1])
            steps.insert(random.randint(0, len(steps)), random.choice((deed(0), task(random.randrange(len(tasks))))))
            methods[at] = (methods[at][0], tuple(steps))
        if len(methods) <= 5 and all(len(steps) <= 5 for _, steps in methods):
            new = Book(book.facts, book.deeds, tasks)
            if is_tails(new):
                return new


def spoiled(random, value):
    """The value with some change: another number, something left out, doubled, exchanged or put in its place."""
    if is_list(value) and value and random.random() < 0.8:
        row = list(value)
        at, other = random.randrange(len(row)), random.randrange(len(row))
        turn = random.randrange(8)
        if turn == 0:
            del row[at]
        elif turn == 1:
            row.insert(other, row[at])
        elif turn == 2:
            row[at], row[other] = row[other], row[at]
        else:
            row[at] = spoiled(random, row[at])
        return tuple(row)
    if type(value) is int and random.random() < 0.8:
        return value + random.choice((-2, -1, 1, 2))
    return random.choice((0, 1, 2, True, False, None, "0", "", (), (0,), ((), ()), [1], 10 ** 300, [[], []]))


def is_plain(value):
    """Whether the value has plain tuples, integers, strings, True, False and None at every level, and nothing else."""
    if type(value) is tuple:
        return all(is_plain(each) for each in value)
    return value is None or type(value) in (int, bool, str)


def as_lists(value):
    """The value with lists in the place of its tuples, at every level."""
    return [as_lists(each) for each in value] if isinstance(value, tuple) else value


def random_condition(random, facts):
    return tuple((fact, random.random() < 0.5) for fact in range(facts) if random.random() < 0.4)


def random_book(random, facts, deeds, tasks, most_methods=3, most_steps=3, share=0.55):
    """A book in which tasks have so great a share in the steps."""
    def step():
        return task(random.randrange(tasks)) if random.random() < share else deed(random.randrange(deeds))

    def some_method():
        steps = tuple(step() for _ in range(random.randint(0, most_steps)))
        return (random_condition(random, facts), steps)

    told = tuple(tuple(some_method() for _ in range(random.randint(0, most_methods))) for _ in range(tasks))
    return Book(facts, deeds, told)


def random_world(random, facts, deeds, states, blocked=0.3):
    def move():
        return None if random.random() < blocked else random.randrange(states)

    held = tuple(tuple(random.random() < 0.5 for _ in range(facts)) for _ in range(states))
    return World(facts, held, tuple(tuple(move() for _ in range(deeds)) for _ in range(states)))


def random_cases(many, seed, most_tasks=4, most_states=5, share=0.55):
    """So many pairs of a book and a world that fits it, the same ones for each seed."""
    random = Random(seed)
    for _ in range(many):
        facts, deeds = random.randint(0, 2), random.randint(1, 3)
        tasks, states = random.randint(1, most_tasks), random.randint(1, most_states)
        book = random_book(random, facts, deeds, tasks, share=share)
        yield book, random_world(random, facts, deeds, states, random.choice((0.0, 0.3, 0.6)))
