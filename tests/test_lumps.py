"""Points [6], [18] and [22]: how many trees there are and what they weigh, told without making trees."""

import copy
import fractions
import inspect
import unittest

from kbestwood import lumps
from kbestwood.listing import count_of
from kbestwood.lumps import inside, passing, total
from kbestwood.nets import Net
from kbestwood.woods import wood_of
from samples import (ALL_TIED, DOGS, EMPTY, LATTICE, NOUGHT, ONE, PAIRS, PAIRS_OF_CHANCE, RICHER, SAMPLES, all_trees, grammar_of,
                     node_of, random_samples, reduced, row, trees_by_node, weight_by_hand)

# How many ways there are to put brackets round so many things, two by two.
BRACKETS = [0, 1, 1, 2, 5, 14, 42, 132, 429, 1430, 4862, 16796, 58786]


def lump_by_hand(grammar, net, trees):
    """The lump of some trees."""
    whole = sum([weight_by_hand(grammar, net, tree) for tree in trees], fractions.Fraction(0))
    return (len(trees), (whole.numerator, whole.denominator))


def beside(told):
    """Lumps side by side."""
    whole = sum([fractions.Fraction(*weight) for count, weight in told], fractions.Fraction(0))
    return (sum([count for count, weight in told]), (whole.numerator, whole.denominator))


def note_goings(wood, tree, above, goings):
    """Notes by which ways a tree goes, as (node's number, way's number)."""
    kids = tuple(("node", note_goings(wood, kid, tree[0], goings)) if isinstance(kid, tuple) else ("edge", kid)
                 for kid in tree[1])
    node = wood.nodes.index(node_of(wood.grammar, wood.net, tree, above))
    goings.append((node, wood.ways[node].index((tree[0], kids))))
    return node


def passing_by_hand(wood):
    """What passing is to tell, by all trees of the net."""
    found = [[[] for way in ways] for ways in wood.ways]
    for tree in all_trees(wood.grammar, wood.net):
        goings = []
        note_goings(wood, tree, -1, goings)
        for node, way in goings:
            found[node][way].append(tree)
    return [[lump_by_hand(wood.grammar, wood.net, trees) for trees in ways] for ways in found]


def woods():
    """Woods of the samples, on cost also with weights at and below nought."""
    samples = SAMPLES + RICHER + random_samples(80)
    return [wood_of(*sample) for sample in samples + [lessened(*sample) for sample in samples if sample[0].scale == "cost"]]


def lessened(grammar, net):
    """A grammar on cost with a net whose weights lie above, at and below nought."""
    edges = [edge[:3] + (((1, 3), NOUGHT, (-3, 2), (-1, 3))[number % 4],) for number, edge in enumerate(net.edges)]
    return grammar, Net(net.places, edges)


class Interface(unittest.TestCase):

    def test_arguments(self):
        for name in ("inside", "total", "passing"):
            self.assertEqual(list(inspect.signature(getattr(lumps, name)).parameters), ["wood"])


class Lumps(unittest.TestCase):

    def check_lump(self, lump):
        self.assertIs(type(lump), tuple)
        count, weight = lump
        self.assertIs(type(count), int)
        self.assertIs(type(weight), tuple)
        self.assertEqual([type(part) for part in weight], [int, int])

    def test_total(self):
        for number, wood in enumerate(woods()):
            with self.subTest(number=number):
                trees = all_trees(wood.grammar, wood.net)
                self.assertEqual(total(wood), lump_by_hand(wood.grammar, wood.net, trees))
                self.check_lump(total(wood))

    def test_inside(self):
        for number, wood in enumerate(woods()):
            with self.subTest(number=number):
                told = [lump_by_hand(wood.grammar, wood.net, [tree for tree, row in pairs]) for pairs in trees_by_node(wood)]
                self.assertEqual(inside(wood), told)
                for lump in inside(wood):
                    self.check_lump(lump)

    def test_passing(self):
        for number, wood in enumerate(woods()):
            with self.subTest(number=number):
                self.assertEqual(passing(wood), passing_by_hand(wood))
                for told in passing(wood):
                    self.assertIs(type(told), list)
                    for lump in told:
                        self.check_lump(lump)

    def check_sides(self, wood):
        """Looks whether what goes in by a node's ways is what comes to it by the ways that have it as a kid."""
        told = passing(wood)
        self.assertEqual([len(ways) for ways in told], [len(ways) for ways in wood.ways])
        for node in range(len(wood.nodes)):
            above = [told[other][number] for other, ways in enumerate(wood.ways) for number, (rule, kids) in enumerate(ways)
                     if ("node", node) in kids]
            self.assertEqual(beside(told[node]), total(wood) if node == wood.top else beside(above))

    def test_side_by_side(self):
        for number, wood in enumerate(woods()):
            with self.subTest(number=number):
                self.check_sides(wood)

    def test_no_tree(self):
        for grammar, net in ((DOGS, row("dogs")), (ALL_TIED, row("a")), (PAIRS, EMPTY), (PAIRS_OF_CHANCE, EMPTY)):
            wood = wood_of(grammar, net)
            self.assertEqual(total(wood), (0, (0, 1)))
            self.assertEqual(inside(wood), [])
            self.assertEqual(passing(wood), [])

    def test_written_out(self):
        net = Net(1, [(0, 1, "a", (1, 2)), (0, 1, "a", (1, 3))])
        for scale, whole, weights in (("cost", (17, 3), [(3, 2), (4, 3)]), ("chance", (5, 3), [(1, 2), (1, 3)])):
            wood = wood_of(grammar_of("s1 S -> a : 1", "s2 S -> a : 1", scale=scale), net)
            self.assertEqual(total(wood), (4, whole))
            self.assertEqual(inside(wood), [(4, whole)])
            edges = [kids[0][1] for rule, kids in wood.ways[0]]
            self.assertEqual(passing(wood), [[(1, weights[edge]) for edge in edges]])
        wood = wood_of(DOGS, row("dogs bark"))
        self.assertEqual(total(wood), (1, (11, 6)))
        self.assertEqual(passing(wood), [[(1, (11, 6))], [(1, (11, 6))], [(1, (11, 6))]])

    def test_lists_told_and_changed(self):
        wood = wood_of(PAIRS, LATTICE)
        for tell in (inside, passing):
            told = tell(wood)
            kept = copy.deepcopy(told)
            if tell is passing:
                told[0].clear()
                told[-1].append("x")
            told.reverse()
            told.pop()
            self.assertEqual(tell(wood), kept)
        told = passing(wood_of(PAIRS, row("a b a")))
        told[0].append("x")
        self.assertEqual([lump for ways in told[1:] for lump in ways if lump == "x"], [])

    def test_the_wood_stays(self):
        wood = wood_of(PAIRS, LATTICE)
        kept = copy.deepcopy((wood.nodes, wood.ways, wood.top, wood.net.edges))
        inside(wood)
        total(wood)
        passing(wood)
        self.assertEqual((wood.nodes, wood.ways, wood.top, wood.net.edges), kept)


class Great(unittest.TestCase):
    """Rows of words read by pairs: each tree has a rule of one word for each, and one rule of two parts less."""

    pairs = [(1, 2), (1, 3), (3, 1)]
    words = [(2, 5), (1, 7)]

    def wood(self, places, scale):
        rules = [f"p{k} S -> S S : {top}/{bottom}" for k, (top, bottom) in enumerate(self.pairs)]
        rules += [f"w{k} S -> a : {top}/{bottom}" for k, (top, bottom) in enumerate(self.words)]
        return wood_of(grammar_of(*rules, scale=scale), Net(places, [(at, at + 1, "a", ONE) for at in range(places)]))

    def lump(self, many, scale, brackets):
        """The lump of all trees of so many words, of so many ways to put brackets, where edges weigh one."""
        count = brackets * 3 ** (many - 1) * 2 ** many
        pairs = sum([fractions.Fraction(*weight) for weight in self.pairs])
        words = sum([fractions.Fraction(*weight) for weight in self.words])
        if scale == "chance":
            whole = brackets * pairs ** (many - 1) * words ** many
        else:
            # Each rule stands as often at each place as any other one that may stand there.
            whole = count * (pairs / 3 * (many - 1) + (words / 2 + 1) * many)
        return (count, (whole.numerator, whole.denominator))

    def test_inside_and_total(self):
        for scale in ("cost", "chance"):
            for places in (1, 2, 5, 11, 12):
                wood = self.wood(places, scale)
                self.assertEqual(total(wood), self.lump(places, scale, BRACKETS[places]))
                self.assertEqual(total(wood)[0], count_of(wood))
                for (kind, above, begin, end), lump in zip(wood.nodes, inside(wood)):
                    self.assertEqual(lump, self.lump(end - begin, scale, BRACKETS[end - begin]))
            self.assertGreater(total(wood)[0], 10 ** 13)

    def test_passing(self):
        for scale in ("cost", "chance"):
            wood = self.wood(12, scale)
            told = passing(wood)
            for (kind, above, begin, end), lumps_told in zip(wood.nodes, told):
                # The words of a node may be seen as one word more among the others.
                brackets = BRACKETS[end - begin] * BRACKETS[12 - (end - begin) + 1]
                self.assertEqual(beside(lumps_told), self.lump(12, scale, brackets))

    def test_great_weights(self):
        # Forty figures above and beneath the stroke; the last one shares divisors with others.
        great = 10 ** 39
        self.pairs = [reduced((great + 7, 3 * great + 1)), reduced((5 * great + 1, great + 3)), reduced((great + 2, 6 * great))]
        self.words = [reduced((great + 9, 7 * great + 3)), reduced((6 * great, great + 2))]
        self.test_inside_and_total()
        self.test_passing()

    def test_side_by_side(self):
        check = Lumps("check_sides").check_sides
        check(self.wood(8, "cost"))
        check(self.wood(8, "chance"))

    def test_many_edges_and_kinds(self):
        # All weights on cost are one, so each tree weighs as much as it has rules and edges: 11 and 12 and 12.
        edges = [(at, at + 1, "a", ONE) for at in range(12) for k in range(3)]
        wood = wood_of(grammar_of("s1 S -> S S : 1", "s2 S -> a : 1", "s3 S -> a : 1", "s4 S -> S S : 1"), Net(12, edges))
        count = 58786 * 2 ** 11 * 6 ** 12
        self.assertEqual(total(wood), (count, (35 * count, 1)))
        for told in passing(wood):
            for count, weight in told:
                self.assertEqual(weight, (35 * count, 1))

    def test_long_weights(self):
        great = 10 ** 40
        edges = [(at, at + 1, "a", (great - 2 * k - 1, great - 3 - 2 * at)) for at in range(4) for k in (2, 5, 6)]
        edges = [edge[:3] + (reduced(edge[3]),) for edge in edges]
        for scale in ("cost", "chance"):
            wood = wood_of(grammar_of("s1 S -> a S : 1", "s2 S -> a : 1", "s3 S -> S S : 1/7", scale=scale), Net(4, edges))
            self.assertEqual(total(wood), lump_by_hand(wood.grammar, wood.net, all_trees(wood.grammar, wood.net)))
            self.assertEqual(passing(wood), passing_by_hand(wood))


if __name__ == "__main__":
    unittest.main()
