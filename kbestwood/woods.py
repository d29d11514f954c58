"""Woods: all trees of a net, kept as nodes and ways that they share."""

from kbestwood.charts import Chart
from kbestwood.errors import NoWeight
from kbestwood.grammars import heads_in_order
from kbestwood.scales import scale_of


class Wood:
    """Nodes, the ways of each node, and the number of the top's node; made by wood_of alone."""

    def __init__(self, grammar, net, nodes, ways, top):
        self.grammar = grammar
        self.net = net
        self.nodes = nodes
        self.ways = ways
        self.top = top


def wood_of(grammar, net):
    """The wood of all trees by which a grammar reads a net."""
    check_edge_weights(grammar, net)
    chart = Chart(grammar, net)
    if net.places not in chart.ends_from(chart.top_seat, 0):
        return Wood(grammar, net, (), (), None)
    top = chart.top_seat + (0, net.places)
    found = ways_found(chart, top)
    nodes = nodes_in_order(grammar, found)
    numbers = dict([(node, number) for number, node in enumerate(nodes)])
    ways = [tuple([numbered_way(way, numbers) for way in found[node]]) for node in nodes]
    return Wood(grammar, net, tuple(nodes), tuple(ways), numbers[top])


def check_edge_weights(grammar, net):
    """Refuses an edge whose weight is none of the grammar's scale."""
    scale = scale_of(grammar.scale)
    for begin, end, word, weight in net.edges:
        if not scale.takes(weight):
            raise NoWeight(f"the weight of an edge of the word {word} is none of the scale")


def ways_found(chart, top):
    """The ways of each node that can be come to from the top, by the node."""
    found = {}
    waiting = [top]
    while waiting:
        node = waiting.pop()
        if node not in found:
            found[node] = chart.ways_of(node)
            waiting.extend([thing for number, kids in found[node] for form, thing in kids if form == "node"])
    return found


def nodes_in_order(grammar, found):
    """Nodes in such an order that each one stands behind those that its ways have as kids."""
    # A kid is shorter than its node, or as long and, by a rule of one part, of a head that stands ahead.
    places = dict([(head, place) for place, head in enumerate(heads_in_order(grammar.rules))])
    keyed = [(end - begin, places[kind], (kind, above, begin, end)) for kind, above, begin, end in found]
    return [node for length, place, node in sorted(keyed)]


def numbered_way(way, numbers):
    """A way with the numbers of its node kids."""
    number, kids = way
    return (number, tuple([(form, numbers[thing] if form == "node" else thing) for form, thing in kids]))
