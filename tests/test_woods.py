"""Points [13] and [14], and [9] and [12] within them: woods."""

import inspect
import unittest

from kbestwood import woods
from kbestwood.errors import NoWeight
from kbestwood.nets import Net
from kbestwood.reader import grammar_text
from kbestwood.woods import Wood, wood_of
from samples import (ALL_TIED, CHAINS, DEAD, DOGS, HALF, ONE, PAIRS, SAMPLES, TIED, TIED_TOP, all_trees, grammar_of,
                     node_of, random_samples, row)


def note_ways(grammar, net, tree, above, ways):
    """Notes the ways of a tree's nodes."""
    kids = []
    for kid in tree[1]:
        if isinstance(kid, tuple):
            kids.append(("node", note_ways(grammar, net, kid, tree[0], ways)))
        else:
            kids.append(("edge", kid))
    node = node_of(grammar, net, tree, above)
    ways.setdefault(node, set()).add((tree[0], tuple(kids)))
    return node


def ways_by_hand(grammar, net):
    """The ways of each node that stands in some tree, by the node."""
    ways = {}
    for tree in all_trees(grammar, net):
        note_ways(grammar, net, tree, -1, ways)
    return ways


def ways_told(wood):
    """The ways of each node of a wood, by the node, with nodes instead of their numbers."""
    return {node: {(number, tuple((form, wood.nodes[kid] if form == "node" else kid) for form, kid in kids))
                   for number, kids in ways} for node, ways in zip(wood.nodes, wood.ways)}


class Interface(unittest.TestCase):

    def test_arguments(self):
        self.assertEqual(list(inspect.signature(woods.wood_of).parameters), ["grammar", "net"])

    def test_fields(self):
        net = row("dogs bark")
        wood = wood_of(DOGS, net)
        self.assertIsInstance(wood, Wood)
        self.assertEqual(grammar_text(wood.grammar), grammar_text(DOGS))
        self.assertEqual((wood.net.places, wood.net.edges), (net.places, net.edges))


class Woods(unittest.TestCase):

    def check_form(self, wood):
        """Sees to the kinds of all values, to the order of kids and that nothing stands twice."""
        self.assertEqual([type(wood.nodes), type(wood.ways)], [tuple, tuple])
        self.assertEqual(len(wood.nodes), len(wood.ways))
        self.assertEqual(len(set(wood.nodes)), len(wood.nodes))
        for number, (node, ways) in enumerate(zip(wood.nodes, wood.ways)):
            self.assertEqual([type(value) for value in node], [str, int, int, int])
            self.assertEqual([type(node), type(ways)], [tuple, tuple])
            self.assertEqual(len(set(ways)), len(ways))
            for way in ways:
                self.assertEqual([type(way), type(way[0]), type(way[1])], [tuple, int, tuple])
                for form, kid in way[1]:
                    self.assertIn(form, ("edge", "node"))
                    if form == "node":
                        self.assertIn(kid, range(number))

    def check(self, grammar, net):
        wood = wood_of(grammar, net)
        self.check_form(wood)
        by_hand = ways_by_hand(grammar, net)
        self.assertEqual(ways_told(wood), by_hand)
        if by_hand:
            self.assertEqual(wood.nodes[wood.top], (grammar.start, -1, 0, net.places))
        else:
            self.assertEqual((wood.nodes, wood.ways), ((), ()))
            self.assertIs(wood.top, None)

    def test_against_all_trees(self):
        for number, (grammar, net) in enumerate(SAMPLES):
            with self.subTest(number=number):
                self.check(grammar, net)

    def test_against_all_trees_by_lot(self):
        samples = random_samples(250)
        self.assertGreater(len([1 for sample in samples if all_trees(*sample)]), 100)
        for number, (grammar, net) in enumerate(samples):
            with self.subTest(number=number):
                self.check(grammar, net)

    def test_the_same_each_time(self):
        for grammar, net in SAMPLES + random_samples(20):
            one, other = wood_of(grammar, net), wood_of(grammar, net)
            self.assertEqual((one.nodes, one.ways, one.top), (other.nodes, other.ways, other.top))

    def test_nothing_is_changed(self):
        for grammar, net in SAMPLES:
            before = (grammar_text(grammar), net.places, net.edges)
            wood_of(grammar, net)
            self.assertEqual((grammar_text(grammar), net.places, net.edges), before)


class WrittenOut(unittest.TestCase):

    def test_dogs_bark(self):
        wood = wood_of(DOGS, row("dogs bark"))
        self.assertEqual(ways_told(wood), {
            ("S", -1, 0, 2): {(0, (("node", ("N", -1, 0, 1)), ("node", ("V", -1, 1, 2))))},
            ("N", -1, 0, 1): {(1, (("edge", 0),))}, ("V", -1, 1, 2): {(2, (("edge", 1),))}})
        self.assertEqual(wood.top, 2)

    def test_no_tree(self):
        for grammar, net in ((DOGS, row("bark dogs")), (DOGS, Net(1, [])), (ALL_TIED, row("a")), (PAIRS, row("a c a"))):
            wood = wood_of(grammar, net)
            self.assertEqual((wood.nodes, wood.ways), ((), ()))
            self.assertIs(wood.top, None)

    def test_a_tied_kind_beneath_two_rules(self):
        told = ways_told(wood_of(TIED, row("a b")))
        # The rule n4 may stand beneath both, so its node is there beneath each rule that makes the whole.
        self.assertEqual(told[("N", 0, 0, 1)], {(2, (("edge", 0),)), (3, (("edge", 0),))})
        self.assertEqual(told[("N", 1, 1, 2)], {(5, (("edge", 1),))})
        self.assertNotIn(("N", 8, 1, 2), told)
        self.assertEqual(told[("V", -1, 0, 1)], {(6, (("edge", 0),))})

    def test_the_start_beneath_and_at_the_top(self):
        told = ways_told(wood_of(TIED_TOP, row("a a")))
        self.assertEqual(told, {
            ("S", -1, 0, 2): {(0, (("node", ("S", 0, 0, 1)), ("node", ("S", 0, 1, 2))))},
            ("S", 0, 0, 1): {(1, (("edge", 0),)), (2, (("edge", 0),))},
            ("S", 0, 1, 2): {(1, (("edge", 1),)), (2, (("edge", 1),))}})

    def test_chains(self):
        told = ways_told(wood_of(CHAINS, row("a")))
        self.assertEqual(set(told), {(kind, -1, 0, 1) for kind in "SABC"})
        self.assertEqual(told[("A", -1, 0, 1)], {(2, (("node", ("B", -1, 0, 1)),)), (3, (("node", ("C", -1, 0, 1)),))})

    def test_what_is_in_no_tree_is_left_out(self):
        told = ways_told(wood_of(DEAD, row("a a b")))
        self.assertEqual(set(told), {("S", -1, 0, 3), ("A", -1, 0, 2), ("A", -1, 1, 2), ("B", -1, 2, 3)})
        self.assertEqual(told[("S", -1, 0, 3)], {(0, (("node", ("A", -1, 0, 2)), ("node", ("B", -1, 2, 3))))})

    def test_two_edges_alike(self):
        told = ways_told(wood_of(PAIRS, Net(2, [(0, 1, "a", ONE), (0, 1, "a", ONE), (0, 2, "b", ONE), (1, 2, "c", ONE)])))
        self.assertEqual(told, {("S", -1, 0, 2): {(2, (("edge", 2),))}})
        told = ways_told(wood_of(PAIRS, Net(1, [(0, 1, "a", ONE), (0, 1, "a", ONE)])))
        self.assertEqual(told, {("S", -1, 0, 1): {(1, (("edge", 0),)), (1, (("edge", 1),))}})


class NoWeights(unittest.TestCase):

    def refused(self, grammar, net):
        with self.assertRaises(NoWeight) as taken:
            wood_of(grammar, net)
        self.assertIs(type(taken.exception), NoWeight)

    def test_chance(self):
        grammar = grammar_of("s1 S -> a : 1", "s2 S -> a S : 1", scale="chance")
        for weight in ((0, 1), (-1, 1), (-1, 2), (-1, 10 ** 39)):
            with self.subTest(weight=weight):
                self.refused(grammar, Net(1, [(0, 1, "a", weight)]))
                self.refused(grammar, Net(2, [(0, 1, "a", HALF), (1, 2, "a", weight)]))
                # No tree uses the edge, or there is no tree at all.
                self.refused(grammar, Net(2, [(0, 1, "a", ONE), (1, 2, "a", ONE), (0, 2, "b", weight)]))
                self.refused(grammar, Net(2, [(0, 1, "b", weight)]))
        self.assertEqual(wood_of(grammar, Net(1, [(0, 1, "a", (1, 10 ** 39))])).top, 0)

    def test_cost_takes_any(self):
        grammar = grammar_of("s1 S -> a : 1")
        for weight in ((0, 1), (-1, 1), (-1, 2)):
            self.assertEqual(wood_of(grammar, Net(1, [(0, 1, "a", weight), (0, 1, "b", weight)])).top, 0)


class Bounds(unittest.TestCase):
    """Point [2]: up to 20 rules, 8 kinds, 12 places and 40 edges."""

    def test_great_woods(self):
        pairs = ["S A B", "S B A", "A B C", "B C D", "C D E", "D E F", "E F G", "F G A", "G S A", "A S G"]
        rules = [f"p{k} {pair[0]} -> {pair[2:]} : 1" for k, pair in enumerate(pairs)]
        rules += [f"w{kind.lower()} {kind} -> a : 1" for kind in "SABCDEFG"]
        rules += ["l1 S -> a S a A : 1", "l2 A -> B C D E : 2 under p1 l1"]
        edges = [(at, at + 1, "a", ONE) for at in range(12)] + [(at, at + 2, "a", ONE) for at in range(11)]
        edges += [(at, at + 3, "a", ONE) for at in range(10)] + [(at, at + 1, "b", ONE) for at in range(7)]
        wood = wood_of(grammar_of(*rules), Net(12, edges))
        self.assertEqual(wood.nodes[wood.top], ("S", -1, 0, 12))
        self.assertGreater(sum(len(ways) for ways in wood.ways), 2000)
        come_to = {wood.top} | {kid for ways in wood.ways for way in ways for form, kid in way[1] if form == "node"}
        self.assertEqual(come_to, set(range(len(wood.nodes))))
        self.assertTrue(all(wood.ways))

    def test_many_tied_seats(self):
        rules = [f"r{k} S -> S S S S : 1 under " + " ".join(f"r{j}" for j in range(k + 1)) for k in range(19)]
        wood = wood_of(grammar_of("top S -> a : 1", *[rule.replace("under", "under top") for rule in rules]),
                       row(" ".join("a" * 12)))
        self.assertIs(wood.top, None)


if __name__ == "__main__":
    unittest.main()
