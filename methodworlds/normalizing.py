"""Normal machines: with as few nodes as can be, numbered as they are first come to."""


def target(told, to):
    """What is told, node by node, of the node to which a deed leads; the last thing told stands for none."""
    return told[-1 if to is None else to]


def with_nowhere(nodes):
    """The nodes, and behind them one that accepts nothing: to lead nowhere is to lead to it."""
    return [*nodes, tuple([(False, (None,) * len(leads)) for _, leads in nodes[0]])]


def kinds_of(nodes):
    """For each node its kind: two nodes are of one kind if they accept the same endings. The last kind is for none."""
    every = with_nowhere(nodes)
    kinds = [0] * len(every)
    many = 0
    while True:
        numbers = {}
        finer = []
        for kind, node in zip(kinds, every):
            told = tuple([(ends, tuple([target(kinds, to) for to in leads])) for ends, leads in node])
            finer.append(numbers.setdefault((kind, told), len(numbers)))
        if len(numbers) == many:
            return kinds
        many = len(numbers)
        kinds = finer


def first_nodes(nodes, kinds):
    """The first node of each kind that accepts something, as these are come to; and node 0 in any case."""
    seen = {kinds[0]: True, kinds[-1]: True}
    order = [0]
    at = 0
    while at < len(order):
        here = order[at]
        for _, leads in nodes[here]:
            for to in leads:
                if target(kinds, to) not in seen:
                    seen[target(kinds, to)] = True
                    order.append(to)
        at += 1
    return order


def normalized(nodes):
    """The normal machine that accepts what a machine accepts all of whose nodes are come to."""
    kinds = kinds_of(nodes)
    order = first_nodes(nodes, kinds)
    numbers = {kinds[at]: number for number, at in enumerate(order)}
    numbers[kinds[-1]] = None
    told = [numbers[kind] for kind in kinds]
    machine = []
    for at in order:
        pairs = [(ends, tuple([target(told, to) for to in leads])) for ends, leads in nodes[at]]
        machine.append(tuple(pairs))
    return tuple(machine)
