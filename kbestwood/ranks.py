"""Rows (number of a way, ranks) of a node: their trees, and the border behind the rows that are already there.

A weighed tree is a tuple (weight, row, tree). By its weight and its row it is told which of two trees stands ahead.
"""

from kbestwood.scales import scale_of


def node_kids(way):
    """The numbers of a way's node kids, in order."""
    number, kids = way
    return [thing for form, thing in kids if form == "node"]


def weighed_tree(wood, way, kids):
    """The weighed tree that a way makes of the weighed trees of its node kids, in order."""
    number, things = way
    weights, row, trees = [wood.grammar.rules[number].weight], [number], []
    coming = list(reversed(kids))
    for form, thing in things:
        weight, numbers, tree = coming.pop() if form == "node" else (wood.net.edges[thing][3], [thing], thing)
        weights.append(weight)
        row.extend(numbers)
        trees.append(tree)
    return (scale_of(wood.grammar.scale).together(weights), row, (number, tuple(trees)))


def raised(ranks):
    """Each tuple that has one of the ranks more by one, the others as they are."""
    return [ranks[:at] + (rank + 1,) + ranks[at + 1:] for at, rank in enumerate(ranks)]


def lowered(ranks):
    """Each tuple that has one of the ranks less by one, but not below nought, the others as they are."""
    return [ranks[:at] + (rank - 1,) + ranks[at + 1:] for at, rank in enumerate(ranks) if rank > 0]


def is_border(number, ranks, taken):
    """Whether ranks are a border tuple of the way of a number, by a dict of the rows that are taken."""
    if (number, ranks) in taken:
        return False
    return all([(number, lower) in taken for lower in lowered(ranks)])


def first_border(ways):
    """The border tuples of a node that has no rows, each as a row."""
    return [(number, (0,) * len(node_kids(way))) for number, way in enumerate(ways)]


def border_behind(row, taken):
    """The border tuples of a row's way that have one rank more than the row, each as a row."""
    number, ranks = row
    return [(number, higher) for higher in raised(ranks) if is_border(number, higher, taken)]
