"""Point [11]: nets, and the nets of rows of words."""

import inspect
import itertools
import unittest

from kbestwood import nets
from kbestwood.errors import NoNet, NoScale
from kbestwood.nets import Net, row_net

HALF = (1, 2)
NO_WORDS = ("", "A", "Dogs", "a" * 13, "a b", " a", "a ", "a\n", "a-b", "->", "\u00e4")


class Refusals(unittest.TestCase):

    def refused(self, error, call, *handed):
        with self.subTest(handed=handed):
            with self.assertRaises(error) as taken:
                call(*handed)
            self.assertIs(type(taken.exception), error)


class Interface(unittest.TestCase):

    def test_arguments(self):
        for name, arguments in {"Net": ["places", "edges"], "row_net": ["words", "scale"]}.items():
            self.assertEqual(list(inspect.signature(getattr(nets, name)).parameters), arguments)


class Nets(Refusals):

    def test_fields(self):
        edges = [(0, 1, "a", HALF), (0, 3, "b", (0, 1)), (2, 3, "0c", (-1, 2)), (1, 2, "a", (5, 1))]
        for handed in (edges, tuple(edges)):
            net = Net(3, handed)
            self.assertEqual(net.places, 3)
            self.assertIs(type(net.edges), tuple)
            self.assertEqual(net.edges, tuple(edges))

    def test_no_edges(self):
        for places in (1, 2, 12):
            net = Net(places, [])
            self.assertEqual((net.places, net.edges), (places, ()))

    def test_every_place(self):
        for places in (1, 2, 3, 12):
            for begin, end in itertools.product(range(-2, places + 3), repeat=2):
                edge = (begin, end, "a", HALF)
                if 0 <= begin < end <= places:
                    self.assertEqual(Net(places, [edge]).edges, (edge,))
                else:
                    self.refused(NoNet, Net, places, [edge])

    def test_two_alike(self):
        edge = (0, 1, "a", HALF)
        self.assertEqual(Net(1, [edge, edge]).edges, (edge, edge))

    def test_order_is_kept(self):
        edges = [(0, 1, "b", HALF), (0, 1, "a", HALF), (1, 2, "a", HALF)]
        for order in itertools.permutations(edges):
            self.assertEqual(Net(2, list(order)).edges, order)

    def test_copies_are_kept(self):
        edges = [(0, 1, "a", HALF), (0, 1, "b", HALF)]
        net = Net(1, edges)
        self.assertEqual(edges, [(0, 1, "a", HALF), (0, 1, "b", HALF)])
        edges[0] = (0, 1, "c", HALF)
        edges.append((0, 1, "d", HALF))
        self.assertEqual(net.edges, ((0, 1, "a", HALF), (0, 1, "b", HALF)))

    def test_the_weight_is_not_looked_at(self):
        for weight in ((0, 1), (-3, 4), (2, 4), (1, 0), None, "much"):
            self.assertEqual(Net(1, [(0, 1, "a", weight)]).edges, ((0, 1, "a", weight),))

    def test_places(self):
        for places in (0, -1, -12):
            self.refused(NoNet, Net, places, [])
            self.refused(NoNet, Net, places, [(0, 1, "a", HALF)])

    def test_words(self):
        for word in ("a", "0", "a" * 12, "aB", "0Z"):
            self.assertEqual(Net(1, [(0, 1, word, HALF)]).edges[0][2], word)
        for word in NO_WORDS:
            self.refused(NoNet, Net, 1, [(0, 1, word, HALF)])

    def test_any_edge_is_looked_at(self):
        good = (0, 1, "a", HALF)
        for bad in ((1, 1, "a", HALF), (1, 0, "a", HALF), (-1, 1, "a", HALF), (0, 3, "a", HALF), (0, 1, "A", HALF)):
            self.refused(NoNet, Net, 2, [bad, good, good])
            self.refused(NoNet, Net, 2, [good, bad, good])
            self.refused(NoNet, Net, 2, (good, good, bad))

    def test_other_kinds_of_things(self):
        for edge in ((False, 1, "a", HALF), (0, True, "a", HALF), (0, 1, None, HALF), (0, 1, "a"), (0, 1, "a", HALF, HALF),
                     ("0", 1, "a", HALF), (0, None, "a", HALF), (), None, "edge", [0, 1, "a", HALF]):
            self.refused(NoNet, Net, 2, [edge])
        for places in (True, None, "2"):
            self.refused(NoNet, Net, places, [])


class RowNets(Refusals):

    def test_one_word(self):
        self.assertEqual(row_net(["dogs"], "cost").edges, ((0, 1, "dogs", (0, 1)),))
        self.assertEqual(row_net(["dogs"], "chance").edges, ((0, 1, "dogs", (1, 1)),))

    def test_many_words(self):
        for words in (["a", "b"], ["a", "a", "a"], ["0", "z" * 12, "b"], [f"w{k}" for k in range(12)]):
            for scale, weight in (("cost", (0, 1)), ("chance", (1, 1))):
                net = row_net(words, scale)
                self.assertIsInstance(net, Net)
                self.assertEqual(net.places, len(words))
                self.assertIs(type(net.edges), tuple)
                self.assertEqual(net.edges, tuple((k, k + 1, words[k], weight) for k in range(len(words))))

    def test_the_list_stays(self):
        words = ["a", "b"]
        net = row_net(words, "cost")
        self.assertEqual(words, ["a", "b"])
        words[0] = "c"
        words.append("d")
        self.assertEqual(net.edges, ((0, 1, "a", (0, 1)), (1, 2, "b", (0, 1))))
        self.assertEqual(net.places, 2)

    def test_no_word(self):
        for scale in ("cost", "chance"):
            self.refused(NoNet, row_net, [], scale)
            for word in NO_WORDS:
                self.refused(NoNet, row_net, [word], scale)
                self.refused(NoNet, row_net, ["a", word], scale)
                self.refused(NoNet, row_net, [word, "a"], scale)

    def test_no_scale_ahead_of_no_net(self):
        for scale in ("", "Cost", "price", "cost "):
            for words in (["a"], [], ["A"], ["a", ""]):
                self.refused(NoScale, row_net, words, scale)


if __name__ == "__main__":
    unittest.main()
