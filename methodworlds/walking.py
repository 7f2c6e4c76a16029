"""Walking through machines: along a string, and through two machines at once."""

from methodworlds.conditions import every_facts
from methodworlds.normalizing import target, with_nowhere


def facts_number(held):
    """The number of the pair of a node that is for these facts."""
    return sum([1 << fact for fact, holds in enumerate(held) if holds])


def is_walked(machine, string):
    """Whether a machine accepts a string."""
    facts, deeds = string
    numbers = [facts_number(held) for held in facts]
    node = 0
    for number, deed in zip(numbers, deeds):
        node = machine[node][number][1][deed]
        if node is None:
            return False
    return machine[node][numbers[-1]][0]


def string_to(came, pair, last):
    """The numbers of the facts and the deeds along the way to a pair of nodes, with the last facts behind it."""
    facts = [last]
    deeds = []
    here = pair
    while came[here] is not None:
        here, held, deed = came[here]
        facts.append(held)
        deeds.append(deed)
    return (facts[::-1], deeds[::-1])


def difference(first, second, either):
    """The numbers of the facts and the deeds of a string, as short as any, that tells two machines apart.

    The first machine accepts it, the second one does not; or, if either is True, it is the other way round. None if
    there is no such string.
    """
    ones = with_nowhere(first)
    others = with_nowhere(second)
    # For each pair of nodes that is come to, the pair, the facts and the deed ahead of it.
    came = {(0, 0): None}
    waiting = [(0, 0)]
    at = 0
    while at < len(waiting):
        here = waiting[at]
        one, other = here
        for held, (left, right) in enumerate(zip(target(ones, one), target(others, other))):
            if left[0] != right[0] and (either or left[0]):
                return string_to(came, here, held)
            for deed, pair in enumerate(zip(left[1], right[1])):
                if pair not in came:
                    came[pair] = (here, held, deed)
                    waiting.append(pair)
        at += 1
    return None


def string_apart(facts, first, second, either):
    """The string for so many facts that difference tells; None if there is none."""
    found = difference(first, second, either)
    if found is None:
        return None
    numbers, deeds = found
    every = [tuple(held) for held in every_facts(facts)]
    return (tuple([every[number] for number in numbers]), tuple(deeds))
