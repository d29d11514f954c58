"""All trees of a wood: how many they are, and the list of them in their order."""

from kbestwood.errors import TooMany
from kbestwood.scales import scale_of
from kbestwood.trees import row_of, weight_of


def count_of(wood):
    """The number of trees of the net."""
    if wood.top is None:
        return 0
    counts = []
    for ways in wood.ways:
        counts.append(sum([count_by(way, counts) for way in ways]))
    return counts[wood.top]


def count_by(way, counts):
    """How many trees are had by a way, by the numbers of trees of the nodes ahead."""
    number, kids = way
    product = 1
    for form, kid in kids:
        if form == "node":
            product *= counts[kid]
    return product


def trees_of(wood, most):
    """The list of all trees in their order."""
    if count_of(wood) > max(most, 0):
        raise TooMany("there are more trees than may be told")
    if wood.top is None:
        return []
    made = []
    for ways in wood.ways:
        made.append([tree for way in ways for tree in trees_by(way, made)])
    return sorted_trees(wood, made[wood.top])


def trees_by(way, made):
    """All trees that are had by a way, by the trees of the nodes ahead."""
    number, kids = way
    rows = [()]
    for form, kid in kids:
        choices = made[kid] if form == "node" else [kid]
        rows = [row + (choice,) for row in rows for choice in choices]
    return [(number, row) for row in rows]


def sorted_trees(wood, trees):
    """Trees in their order."""
    scale = scale_of(wood.grammar.scale)
    runs = [[(weight_of(wood.grammar, wood.net, tree), row_of(tree), tree)] for tree in trees]
    # Exact weights have no key that could be sorted by, so sorted runs are merged two by two.
    while len(runs) > 1:
        runs = [merged(scale, runs[at:at + 2]) for at in range(0, len(runs), 2)]
    return [tree for weight, row, tree in runs[0]]


def merged(scale, runs):
    """One run of one or two, each in order."""
    if len(runs) == 1:
        return runs[0]
    one, other = runs
    run = []
    at, other_at = 0, 0
    while at < len(one) and other_at < len(other):
        if stands_ahead(scale, other[other_at], one[at]):
            run.append(other[other_at])
            other_at += 1
        else:
            run.append(one[at])
            at += 1
    return run + one[at:] + other[other_at:]


def stands_ahead(scale, one, other):
    """Whether the one of two weighed trees (weight, row, tree) stands ahead of the other."""
    if one[0] != other[0]:
        return scale.ahead(one[0], other[0])
    return one[1] < other[1]
