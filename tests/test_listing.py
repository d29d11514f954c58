"""Point [18]: all trees of a wood, counted and listed."""

import inspect
import unittest

from kbestwood import listing
from kbestwood.errors import TooMany
from kbestwood.listing import count_of, trees_of
from kbestwood.nets import Net
from kbestwood.woods import wood_of
from samples import ALL_TIED, DOGS, NOUGHT, ONE, PAIRS, SAMPLES, all_trees, grammar_of, in_order, random_samples, row


class Interface(unittest.TestCase):

    def test_arguments(self):
        for name, arguments in {"count_of": ["wood"], "trees_of": ["wood", "most"]}.items():
            self.assertEqual(list(inspect.signature(getattr(listing, name)).parameters), arguments)


class Listing(unittest.TestCase):

    def refused(self, wood, most):
        with self.assertRaises(TooMany) as taken:
            trees_of(wood, most)
        self.assertIs(type(taken.exception), TooMany)

    def test_against_all_trees(self):
        for number, (grammar, net) in enumerate(SAMPLES + random_samples(150)):
            with self.subTest(number=number):
                trees = in_order(grammar, net, all_trees(grammar, net))
                wood = wood_of(grammar, net)
                self.assertEqual(count_of(wood), len(trees))
                self.assertEqual(trees_of(wood, len(trees)), trees)
                self.assertEqual(trees_of(wood, len(trees) + 1), trees)

    def test_written_out(self):
        wood = wood_of(PAIRS, row("a b a"))
        left = (0, ((0, ((1, (0,)), (2, (1,)))), (1, (2,))))
        right = (0, ((1, (0,)), (0, ((2, (1,)), (1, (2,))))))
        self.assertEqual(trees_of(wood, 2), [left, right])

    def test_unlike_weights(self):
        net = Net(1, [(0, 1, "a", (1, 2)), (0, 1, "a", (1, 3)), (0, 1, "a", (1, 2))])
        for scale, order in (("cost", [(1, 1), (1, 0), (1, 2), (0, 1), (0, 0), (0, 2)]),
                             ("chance", [(0, 0), (0, 2), (0, 1), (1, 0), (1, 2), (1, 1)])):
            wood = wood_of(grammar_of("s1 S -> a : 5", "s2 S -> a : 1", scale=scale), net)
            self.assertEqual(trees_of(wood, 6), [(rule, (edge,)) for rule, edge in order])

    def test_no_tree(self):
        for wood in (wood_of(DOGS, row("dogs")), wood_of(ALL_TIED, row("a")), wood_of(PAIRS, Net(2, []))):
            self.assertEqual(count_of(wood), 0)
            for most in (5, 1, 0, -1, -100):
                self.assertEqual(trees_of(wood, most), [])

    def test_too_many(self):
        wood = wood_of(PAIRS, row("a a a a"))
        self.assertEqual(count_of(wood), 5)
        self.assertEqual(len(trees_of(wood, 5)), 5)
        self.assertEqual(len(trees_of(wood, 6)), 5)
        for most in (4, 1, 0, -1, -5, -100):
            self.refused(wood, most)
        one = wood_of(DOGS, row("dogs bark"))
        self.assertEqual(len(trees_of(one, 1)), 1)
        self.refused(one, 0)
        self.refused(one, -1)

    def test_the_list_is_the_askers_own(self):
        wood = wood_of(PAIRS, row("a a a a"))
        one = trees_of(wood, 5)
        kept = list(one)
        one.reverse()
        one.pop()
        self.assertEqual(trees_of(wood, 5), kept)
        self.assertEqual(count_of(wood), 5)

    def test_the_wood_stays(self):
        wood = wood_of(PAIRS, row("a b a"))
        kept = (wood.nodes, wood.ways, wood.top)
        trees_of(wood, 9)
        count_of(wood)
        self.assertEqual((wood.nodes, wood.ways, wood.top), kept)


class Great(unittest.TestCase):

    def test_more_than_could_be_made(self):
        # So many trees has a row of n words by S -> S S alone: the number of ways to put brackets round n things.
        brackets = [0, 1, 1, 2, 5, 14, 42, 132, 429, 1430, 4862, 16796, 58786]
        grammar = grammar_of("s1 S -> S S : 1", "s2 S -> S S : 1", "s3 S -> S S : 2", "s4 S -> a : 1")
        for places in range(1, 13):
            wood = wood_of(grammar, row(" ".join("a" * places)))
            self.assertEqual(count_of(wood), brackets[places] * 3 ** (places - 1))
        for most in (0, 1, 300, 10 ** 9):
            with self.assertRaises(TooMany):
                trees_of(wood, most)

    def test_many_edges_side_by_side(self):
        edges = [(at, at + 1, "a", ONE) for at in range(12) for k in range(3)]
        grammar = grammar_of("s1 S -> S S : 1", "s2 S -> a : 1", "s3 S -> a : 1", "s4 S -> S S : 1")
        wood = wood_of(grammar, Net(12, edges))
        self.assertEqual(count_of(wood), 58786 * 2 ** 11 * 6 ** 12)
        with self.assertRaises(TooMany):
            trees_of(wood, 300)

    def test_three_hundred_trees(self):
        edges = [(0, 1, "a", (k, 1)) for k in range(20)] + [(1, 2, "a", (k, 1)) for k in range(15)]
        for scale in ("cost", "chance"):
            grammar = grammar_of("s1 S -> A A : 1", "a1 A -> a : 1", scale=scale)
            net = Net(2, [edge[:3] + ((edge[3][0] + 1, 1),) for edge in edges])
            trees = trees_of(wood_of(grammar, net), 300)
            self.assertEqual(trees, in_order(grammar, net, all_trees(grammar, net)))
            self.assertEqual(len(trees), 300)

    def test_deep_trees(self):
        kinds = "SABCDEFG"
        rules = [f"{kind.lower()}1 {kind} -> {part} : 1" for kind, part in zip(kinds, kinds[1:])]
        grammar = grammar_of(*rules, "g1 G -> a S : 1", "g2 G -> a : 1")
        wood = wood_of(grammar, row(" ".join("a" * 12)))
        self.assertEqual(count_of(wood), 1)
        tree = trees_of(wood, 1)[0]
        depth = 0
        while isinstance(tree, tuple):
            tree, depth = tree[1][-1], depth + 1
        self.assertEqual(depth, 96)

    def test_long_weights(self):
        # Forty figures above and beneath the stroke, and weights that differ in the last one alone.
        great = 10 ** 40
        edges = [(at, at + 1, "a", (great - 2 * k - 1, great - 3)) for at in range(5) for k in range(2, 5)]
        for scale in ("cost", "chance"):
            grammar = grammar_of("s1 S -> a S : 1", "s2 S -> a : 1", scale=scale)
            net = Net(5, edges)
            trees = trees_of(wood_of(grammar, net), 243)
            self.assertEqual(trees, in_order(grammar, net, all_trees(grammar, net)))

    def test_weights_of_nothing(self):
        grammar = grammar_of("s1 S -> S S : 0", "s2 S -> a : 0")
        net = Net(6, [(at, at + 1, "a", NOUGHT) for at in range(6)])
        self.assertEqual(trees_of(wood_of(grammar, net), 42), in_order(grammar, net, all_trees(grammar, net)))


if __name__ == "__main__":
    unittest.main()
