"""Grammars and nets for the tests, and all their trees, made one by one straight from what the document says."""

import fractions
import functools
import itertools
import operator
import random

from kbestwood.errors import Ring
from kbestwood.grammars import Grammar, Rule
from kbestwood.nets import Net, row_net
from kbestwood.reader import read_grammar

NOUGHT = (0, 1)
ONE = (1, 1)
HALF = (1, 2)


def grammar_of(*rules, scale="cost", start="S"):
    """A grammar of rules' lines, without the word rule ahead of each."""
    return read_grammar("\n".join([f"scale {scale}", f"start {start}"] + ["rule " + rule for rule in rules]))


def row(words, scale="cost"):
    """The net of a row of words that are told in one text."""
    return row_net(words.split(" "), scale)


DOGS = grammar_of("s1 S -> N V : 1", "n1 N -> dogs : 1/2", "v1 V -> bark : 1/3")
PAIRS = grammar_of("s1 S -> S S : 1/2", "s2 S -> a : 1/3", "s3 S -> b : -1")
PAIRS_OF_CHANCE = grammar_of("s1 S -> S S : 1/2", "s2 S -> a : 1/3", "s3 S -> b : 5", "s4 S -> S S : 1/2", scale="chance")
LONG = grammar_of("s1 S -> S x S y : 1", "s2 S -> x S y : 2", "s3 S -> x : 0", "s4 S -> A A A A : 1/7", "s5 S -> A : 3",
                  "a1 A -> x : 1", "a2 A -> y : 1", "a3 A -> x y : 1/2", "a4 A -> S x : 2")
TIED = grammar_of("s1 S -> N V : 1", "s2 S -> V N : 1", "n1 N -> a : 1", "n2 N -> a : 2 under s1", "n3 N -> a : 3 under s2",
                  "n4 N -> b : 1 under s1 s2", "v1 V -> a : 1", "v2 V -> b : 1", "v3 V -> a N : 1")
TIED_TOP = grammar_of("s1 S -> S S : 1", "s2 S -> a : 1 under s1", "s3 S -> a : 2", "s4 S -> a a : 2 under s1 s4")
ALL_TIED = grammar_of("s1 S -> a : 1 under s1 s2", "s2 S -> a S : 1 under s2")
CHAINS = grammar_of("s1 S -> A : 1", "s2 S -> B : 1", "a1 A -> B : 1", "a2 A -> C : 1", "b1 B -> C : 1", "c1 C -> a : 1",
                    "c2 C -> S S : 1", "b2 B -> a : 4")
TIED_CHAINS = grammar_of("s1 S -> A : 1", "a1 A -> B : 1 under s1", "b1 B -> C : 1 under a1", "b2 B -> C : 2 under s2",
                         "c1 C -> a : 1 under b1", "c2 C -> S S : 1", "s2 S -> B : 3", "c3 C -> a : 7 under b2 c2")
DEAD = grammar_of("s1 S -> A B : 1", "s2 S -> A C : 1", "a1 A -> a : 1", "a2 A -> a A : 1", "b1 B -> b : 1",
                  "b2 B -> b b D : 1", "c1 C -> c : 1", "c2 C -> C b : 1", "d1 D -> d : 1")
CLIMB = grammar_of("s1 S -> a S : 1 under s2 s1", "s2 S -> b S : 1", "s3 S -> a : 1", "s4 S -> b : 1 under s1")

LATTICE = Net(4, [(0, 1, "a", HALF), (0, 2, "a", ONE), (1, 2, "b", (1, 3)), (1, 2, "b", (1, 3)), (2, 4, "b", (2, 1)),
                  (1, 3, "a", (3, 1)), (3, 4, "a", ONE), (2, 3, "a", (1, 5)), (0, 4, "b", (7, 1)), (3, 4, "b", ONE)])
XY = Net(4, [(0, 1, "x", HALF), (1, 2, "y", HALF), (1, 2, "x", (1, 3)), (0, 2, "x", ONE), (2, 3, "x", ONE), (3, 4, "y", ONE),
             (2, 3, "y", ONE), (2, 4, "y", (3, 1)), (2, 4, "y", (3, 1))])
GAP = Net(3, [(0, 1, "a", ONE), (2, 3, "a", ONE), (0, 1, "b", ONE)])
EMPTY = Net(2, [])

SAMPLES = [
    (DOGS, row("dogs bark")), (DOGS, row("bark dogs")), (DOGS, row("dogs")), (DOGS, EMPTY), (PAIRS, row("a")),
    (PAIRS, row("c")), (PAIRS, row("a a")), (PAIRS, row("a b a")), (PAIRS, row("a b b a")), (PAIRS, row("a c a")),
    (PAIRS, LATTICE), (PAIRS, GAP), (PAIRS_OF_CHANCE, LATTICE), (PAIRS_OF_CHANCE, row("a b b", "chance")), (LONG, XY),
    (LONG, row("x x y")), (LONG, row("x x y x")), (LONG, row("x y y x")), (TIED, row("a b")), (TIED, row("a a")),
    (TIED, row("b a")), (TIED, row("b b")), (TIED, row("a a b")), (TIED, row("a b a")), (TIED, LATTICE),
    (TIED_TOP, row("a")), (TIED_TOP, row("a a")), (TIED_TOP, row("a a a a")), (TIED_TOP, LATTICE), (ALL_TIED, row("a")),
    (ALL_TIED, row("a a")), (CHAINS, row("a")), (CHAINS, row("a a")), (TIED_CHAINS, row("a")), (TIED_CHAINS, row("a a")),
    (DEAD, row("a b")), (DEAD, row("a a c b")), (DEAD, row("a a b b")), (DEAD, row("a a b b d")), (CLIMB, row("b a a b")),
    (CLIMB, row("a b")), (CLIMB, row("b a a")), (CLIMB, LATTICE)]

# Those that have more trees, up to some hundred.
RICHER = [
    (PAIRS, row("a b a b b a")), (PAIRS, row("a b a b b a a")), (PAIRS_OF_CHANCE, row("a b a a", "chance")),
    (PAIRS_OF_CHANCE, row("a b b a a", "chance")), (TIED_CHAINS, row("a a a")), (TIED_CHAINS, LATTICE), (TIED_TOP, row("a a a"))]


def random_samples(many):
    """Grammars and nets that are put together by lot, but are the same each time."""
    lot = random.Random(7)
    made = []
    while len(made) < many:
        scale = lot.choice(["cost", "chance"])
        kinds = ["S", "A", "B"][:lot.randint(1, 3)]
        heads = kinds + [lot.choice(kinds) for k in range(lot.randint(2, 6))]
        titles = [f"r{number}" for number in range(len(heads))]
        rules = [Rule(f"w{kind.lower()}", kind, [lot.choice("aab")], ONE) for kind in kinds]
        for title, head in zip(titles, heads):
            parts = [lot.choice(kinds * 2 + ["a", "a", "b"]) for k in range(lot.choice([1, 2, 2, 2, 3, 4]))]
            under = lot.choice([None, [lot.choice(titles), lot.choice(titles)]])
            rules.append(Rule(title, head, parts, (lot.randint(1, 3), 1), "", under))
        lot.shuffle(rules)
        places = lot.randint(1, 4)
        edges = [(at, at + 1, lot.choice("aaaab"), ONE) for at in range(places)]
        for begin, end in itertools.combinations(range(places + 1), 2):
            if lot.random() < 0.5:
                edges.append((begin, end, lot.choice("aab"), (lot.randint(1, 3), 2)))
        lot.shuffle(edges)
        try:
            made.append((Grammar(scale, "S", rules), Net(places, [edge[:3] + (reduced(edge[3]),) for edge in edges])))
        except Ring:
            pass
    return made


def reduced(weight):
    """A fraction in lowest terms."""
    made = fractions.Fraction(*weight)
    return (made.numerator, made.denominator)


def paths(net, place=0):
    """Each tuple of edges that lead from a place to the last one."""
    if place == net.places:
        return [()]
    return [(number,) + rest for number, edge in enumerate(net.edges) if edge[0] == place for rest in paths(net, edge[1])]


def cuts(things, many):
    """Each way to cut a tuple into so many pieces that are not empty."""
    if many == 1:
        return [[things]] if things else []
    return [[things[:at]] + rest for at in range(1, len(things)) for rest in cuts(things[at:], many - 1)]


def all_trees(grammar, net):
    """All trees of a net, path by path, in no order."""

    @functools.lru_cache(maxsize=None)
    def kids_for(part, above, edges):
        if part[0].isupper():
            return [tree for number in range(len(grammar.rules)) for tree in trees_by(number, part, above, edges)]
        return [edges[0]] if len(edges) == 1 and net.edges[edges[0]][2] == part else []

    def trees_by(number, kind, above, edges):
        rule = grammar.rules[number]
        tied = rule.under is not None and (above == -1 or grammar.rules[above].title not in rule.under)
        if rule.head != kind or tied:
            return []
        made = []
        for pieces in cuts(edges, len(rule.parts)):
            choices = [kids_for(part, number, piece) for part, piece in zip(rule.parts, pieces)]
            made.extend((number, kids) for kids in itertools.product(*choices))
        return made

    return [tree for path in paths(net) for tree in kids_for(grammar.start, -1, path)]


def numbers_in(tree):
    """The numbers of a tree's rules and of its edges."""
    number, kids = tree
    rules, edges = [number], []
    for kid in kids:
        if isinstance(kid, tuple):
            more_rules, more_edges = numbers_in(kid)
            rules, edges = rules + more_rules, edges + more_edges
        else:
            edges.append(kid)
    return rules, edges


def weight_by_hand(grammar, net, tree):
    """The weight of a tree, as a fraction of Python's own library."""
    rules, edges = numbers_in(tree)
    weights = [grammar.rules[number].weight for number in rules] + [net.edges[number][3] for number in edges]
    whole = fractions.Fraction(0 if grammar.scale == "cost" else 1)
    for weight in weights:
        whole = whole + fractions.Fraction(*weight) if grammar.scale == "cost" else whole * fractions.Fraction(*weight)
    return whole


def row_by_hand(tree):
    """The row of a tree."""
    if not isinstance(tree, tuple):
        return [tree]
    return sum([row_by_hand(kid) for kid in tree[1]], [tree[0]])


def order_key(grammar, net, tree):
    """By what the trees of a net are sorted."""
    weight = weight_by_hand(grammar, net, tree)
    return (weight if grammar.scale == "cost" else -weight, row_by_hand(tree))


def in_order(grammar, net, trees):
    """Trees in their order."""
    return sorted(trees, key=lambda tree: order_key(grammar, net, tree))


def parts_of(tree):
    """A tree and all trees in it."""
    return [tree] + [part for kid in tree[1] if isinstance(kid, tuple) for part in parts_of(kid)]


def alike(grammar, net):
    """A grammar and a net with all weights alike, so that rows alone tell the order."""
    rules = [Rule(rule.title, rule.head, rule.parts, HALF, rule.tag, rule.under) for rule in grammar.rules]
    return Grammar(grammar.scale, grammar.start, rules), Net(net.places, [edge[:3] + (HALF,) for edge in net.edges])


def node_of(grammar, net, tree, above):
    """The node of a tree beneath a rule, as the document tells it."""
    head = grammar.rules[tree[0]].head
    tied = any(rule.head == head and rule.under is not None for rule in grammar.rules)
    edges = numbers_in(tree)[1]
    return (head, above if tied else -1, net.edges[edges[0]][0], net.edges[edges[-1]][1])


def trees_by_node(wood):
    """For each node all trees for which it stands, in their order, each with its row (number of a way, ranks)."""
    made = []
    for ways in wood.ways:
        own = []
        for number, (rule, kids) in enumerate(ways):
            for ranks in itertools.product(*[range(len(made[kid])) for form, kid in kids if form == "node"]):
                left = list(ranks)
                parts = tuple(made[kid][left.pop(0)][0] if form == "node" else kid for form, kid in kids)
                own.append(((rule, parts), (number, ranks)))
        made.append(sorted(own, key=lambda pair: order_key(wood.grammar, wood.net, pair[0])))
    return made


def full_paper(wood):
    """The paper with all rows of all nodes, ended True at each."""
    return [(True, [row for tree, row in pairs]) for pairs in trees_by_node(wood)]


def first_by_hand(wood, many):
    """The first trees of a wood: for each node all that its kids' first ones make, cut to so many."""
    weights = [fractions.Fraction(*rule.weight) for rule in wood.grammar.rules]
    edges = [[(fractions.Fraction(*edge[3]), [number], number)] for number, edge in enumerate(wood.net.edges)]
    put = operator.add if wood.grammar.scale == "cost" else operator.mul
    sign = 1 if wood.grammar.scale == "cost" else -1
    made = []
    for ways in wood.ways:
        own = []
        for number, kids in ways:
            for parts in itertools.product(*[made[kid] if form == "node" else edges[kid] for form, kid in kids]):
                weight = functools.reduce(put, [part[0] for part in parts], weights[number])
                own.append((weight, sum([part[1] for part in parts], [number]), (number, tuple(part[2] for part in parts))))
        made.append(sorted(own, key=lambda one: (sign * one[0], one[1]))[:many])
    return [tree for weight, row, tree in made[wood.top]]


def many_trees(places, scale="cost", edges=1):
    """A grammar and a net with far more trees than could be made, for 11 places or more."""
    grammar = grammar_of("s1 S -> S S : 1", "s2 S -> S S : 2/3", "s3 S -> a : 1/2", "s4 S -> S S : 1", "s5 S -> a : 3/5",
                         scale=scale)
    return grammar, Net(places, [(at, at + 1, "a", ONE) for at in range(places) for k in range(edges)])
