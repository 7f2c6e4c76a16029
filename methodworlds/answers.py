"""The answers of a console to the commands that ask something of books and worlds."""

from methodworlds.comparing import apart, within
from methodworlds.counting import ways
from methodworlds.doing import ends, plan
from methodworlds.errors import BadMethod, BadState, BadSyntax, BadValue, TooMany
from methodworlds.machines import normal
from methodworlds.proofs import count_deeds
from methodworlds.reducing import fewest
from methodworlds.sticking import stuck
from methodworlds.texts import parse
from methodworlds.words import digits


def answer_ends(book, world, task, state):
    return ",".join([str(end) for end in ends(book, world, task, state)]) or "none"


def answer_plan(book, world, task, state, wanted):
    word, told = plan(book, world, task, state, wanted)
    many = len(told) if word == "table" else count_deeds(book, told)
    return word + " " + digits(many)


def answer_ways(book, world, task, state, wanted, deeds):
    many = ways(book, world, task, state, wanted, deeds)
    return "endless" if many is None else digits(many)


def answer_stuck(book, world, task, state):
    return "never" if stuck(book, world, task, state) is None else "stuck"


def answer_same(first, task, second, other):
    string = apart(first, task, second, other)
    return "same" if string is None else "apart " + str(len(string[1]))


def answer_within(first, task, second, other):
    string = within(first, task, second, other)
    return "within" if string is None else "apart " + str(len(string[1]))


def answer_nodes(book, task):
    return str(len(normal(book, task)))


def answer_fewest(book, task):
    return str(len(fewest(book, task)[0]))


ANSWERS = {
    "ends": answer_ends,
    "plan": answer_plan,
    "ways": answer_ways,
    "stuck": answer_stuck,
    "same": answer_same,
    "within": answer_within,
    "nodes": answer_nodes,
    "fewest": answer_fewest,
}


def asked(texts, word, told):
    """The answer to a command that tells this behind its first word, with the texts of the names in it."""
    answer = ANSWERS[word]
    values = [parse(texts[each]) if isinstance(each, str) else each for each in told]
    return answer(*values)


def answered(texts, word, told):
    """The answer, or the error that came instead of it."""
    try:
        return asked(texts, word, told)
    except BadValue:
        return "error BadValue"
    except BadMethod:
        return "error BadMethod"
    except BadState:
        return "error BadState"
    except BadSyntax:
        return "error BadSyntax"
    except TooMany:
        return "error TooMany"
