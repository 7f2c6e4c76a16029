"""Counts that are told by one another.

For each name there is a list of terms (factor, names): its count is, added up for all terms, the factor times the
counts of the names. Factors are above 0, or None: there is no end of it. Counted is how often names can be told by
terms down to terms without names; so the counts are the least ones that go with one another.
"""


def fruitful(terms):
    """The names that have a count above 0, as a dict of True."""
    found = {}
    before = -1
    while len(found) > before:
        before = len(found)
        for name in terms:
            if any([all([each in found for each in names]) for _, names in terms[name]]):
                found[name] = True
    return found


def term_count(factor, names, counts):
    found = factor
    for name in names:
        found = found * counts[name]
    return found


def solved(terms):
    """The counts of the names that have one above 0; None for a count without an end."""
    live = fruitful(terms)
    told = {}
    for name in live:
        told[name] = [(factor, names) for factor, names in terms[name] if all([each in live for each in names])]
    counts = {}
    before = -1
    # A name that is told by itself on some way never gets its turn, nor does one that is told by such a name.
    while len(counts) > before:
        before = len(counts)
        for name in told:
            if all([factor is not None and all([each in counts for each in names]) for factor, names in told[name]]):
                counts[name] = sum([term_count(factor, names, counts) for factor, names in told[name]])
    return {name: counts.get(name) for name in live}
