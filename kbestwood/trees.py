"""Trees: tuples (rule's number, kids), in which a kid is a tree or the number of an edge.

Trees are gone through with a list of what is still to come, since they may be deep.
"""

from kbestwood.grammars import is_kind, may_stand
from kbestwood.scales import scale_of


def row_of(tree):
    """The row of a tree: the numbers of its rules and edges, from left to right."""
    row = []
    waiting = [tree]
    while waiting:
        part = waiting.pop()
        if isinstance(part, tuple):
            number, kids = part
            row.append(number)
            waiting.extend(kids[::-1])
        else:
            row.append(part)
    return row


def rules_in(tree):
    """The numbers of a tree's rules, each as often as it stands there, in the order of its row."""
    numbers = []
    waiting = [tree]
    while waiting:
        number, kids = waiting.pop()
        numbers.append(number)
        waiting.extend([kid for kid in kids[::-1] if isinstance(kid, tuple)])
    return numbers


def edges_in(tree):
    """The numbers of a tree's edges, from left to right."""
    numbers = []
    waiting = [tree]
    while waiting:
        part = waiting.pop()
        if isinstance(part, tuple):
            waiting.extend(part[1][::-1])
        else:
            numbers.append(part)
    return numbers


def weight_of(grammar, net, tree):
    """The weight of a tree: that of all its rules and edges together."""
    weights = [grammar.rules[number].weight for number in rules_in(tree)]
    weights.extend([net.edges[number][3] for number in edges_in(tree)])
    return scale_of(grammar.scale).together(weights)


def before(grammar, net, one, other):
    """Whether the one tree stands ahead of the other: by their weights, and then by their rows."""
    weight = weight_of(grammar, net, one)
    other_weight = weight_of(grammar, net, other)
    if weight != other_weight:
        return scale_of(grammar.scale).ahead(weight, other_weight)
    return row_of(one) < row_of(other)


def words_of(net, tree):
    """The words of a tree's edges, from left to right."""
    return [net.edges[number][2] for number in edges_in(tree)]


def tree_text(grammar, net, tree):
    """A tree as it is written: s1(n1(dogs), v1(bark))."""
    texts = []
    waiting = [tree]
    while waiting:
        part = waiting.pop()
        if isinstance(part, str):
            texts.append(part)
        elif isinstance(part, tuple):
            texts.append(grammar.rules[part[0]].title)
            waiting.extend(bracketed(part[1])[::-1])
        else:
            texts.append(net.edges[part][2])
    return "".join(texts)


def bracketed(kids):
    """Kids with the texts round and between them."""
    parts = ["("]
    for kid in kids:
        parts.extend([kid, ", "])
    parts[-1] = ")"
    return parts


def tree_fault(grammar, net, tree):
    """The first word that tells why a tree is none of a net, or the empty text."""
    place = 0
    waiting = [(grammar.start, -1, tree)]
    while waiting:
        part, above, thing = waiting.pop()
        if is_kind(part):
            fault = rule_fault(grammar, part, above, thing)
            if fault == "":
                waiting.extend(seated_kids(grammar, thing)[::-1])
        else:
            fault = edge_fault(net, part, place, thing)
            if fault == "":
                place = net.edges[thing][1]
        if fault != "":
            return fault
    return "" if place == net.places else "end"


def rule_fault(grammar, kind, above, thing):
    """Why a thing can't stand for a kind right beneath the rule above, its kids' own faults left out."""
    if not isinstance(thing, tuple) or not 0 <= thing[0] < len(grammar.rules):
        return "rule"
    number, kids = thing
    if grammar.rules[number].head != kind:
        return "head"
    if not may_stand(grammar, number, above):
        return "tied"
    if len(kids) != len(grammar.rules[number].parts):
        return "kids"
    return ""


def edge_fault(net, word, place, thing):
    """Why a thing can't stand for a word that is to begin at a place."""
    if isinstance(thing, tuple) or not 0 <= thing < len(net.edges) or net.edges[thing][2] != word:
        return "edge"
    if net.edges[thing][0] != place:
        return "place"
    return ""


def seated_kids(grammar, tree):
    """A tree's kids, each behind the part for which it stands and the number of the rule above it."""
    number, kids = tree
    return [(part, number, kid) for part, kid in zip(grammar.rules[number].parts, kids)]
