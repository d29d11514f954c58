"""Lumps of a wood: how many trees there are and what they weigh, told without making trees.

On the way sums may not be in lowest terms: only those that are told are brought there, since this takes the most time.
"""

from kbestwood.fractions import lowest
from kbestwood.ranks import node_kids
from kbestwood.scales import loosely_beside, lump_of, scale_of

NO_TREES = (0, (0, 1))


def inside(wood):
    """For each node the lump of all trees for which it stands."""
    return tidied(wood, loose_inside(wood))


def total(wood):
    """The lump of all trees of the net."""
    if wood.top is None:
        return NO_TREES
    return tidied(wood, [loose_inside(wood)[wood.top]])[0]


def passing(wood):
    """For each node and each of its ways the lump of all trees of the net that go by this way at this node."""
    lumps = loose_inside(wood)
    around = [NO_TREES for node in wood.nodes]
    if wood.top is not None:
        around[wood.top] = lump_of(scale_of(wood.grammar.scale).empty())
    told = [[] for node in wood.nodes]
    # Behind a node stand all nodes that have it as a kid, so what is around it is known when it is come to.
    for node in reversed(range(len(wood.nodes))):
        for way in wood.ways[node]:
            base = joined(wood, around[node], [lump_alone(wood, way)])
            told[node].append(joined(wood, base, [lumps[kid] for kid in node_kids(way)]))
            put_around(wood, way, base, lumps, around)
    return [tidied(wood, by_way) for by_way in told]


def loose_inside(wood):
    """For each node the lump of all trees for which it stands, with a sum that may not be in lowest terms."""
    lumps = []
    for ways in wood.ways:
        lump = NO_TREES
        for way in ways:
            lump = loosely_beside(lump, joined(wood, lump_alone(wood, way), [lumps[kid] for kid in node_kids(way)]))
        lumps.append(lump)
    return lumps


def put_around(wood, way, base, lumps, around):
    """Puts to each node kid of a way the lump of all that stands around it in the trees that go by this way."""
    kids = node_kids(way)
    for kid in kids:
        # No two kids of a way are one node, since one begins where the other ended.
        others = [lumps[other] for other in kids if other != kid]
        around[kid] = loosely_beside(around[kid], joined(wood, base, others))


def lump_alone(wood, way):
    """The lump of a way's rule and edges, without its node kids."""
    number, kids = way
    weights = [wood.grammar.rules[number].weight]
    weights.extend([wood.net.edges[thing][3] for form, thing in kids if form == "edge"])
    return lump_of(scale_of(wood.grammar.scale).together(weights))


def joined(wood, lump, others):
    """A lump joined with each of the others."""
    scale = scale_of(wood.grammar.scale)
    for other in others:
        lump = scale.loosely_joined(lump, other)
    return lump


def tidied(wood, lumps):
    """Lumps with their sums in lowest terms."""
    bottoms = [rule.weight[1] for rule in wood.grammar.rules] + [edge[3][1] for edge in wood.net.edges]
    # A sum's bottom is made of the weights' bottoms alone.
    bases = sorted(set(bottoms))
    return [(count, lowest(loose, bases)) for count, loose in lumps]
