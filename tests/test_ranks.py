"""Rows (number of a way, ranks), and the border behind them, as point [20] tells it."""

import copy
import itertools
import random
import unittest

from kbestwood.ranks import border_behind, first_border, is_border, lowered, node_kids, raised, weighed_tree
from kbestwood.trees import row_of, weight_of
from kbestwood.woods import wood_of
from samples import PAIRS, SAMPLES, row

WAYS = ((0, (("edge", 3), ("node", 5), ("edge", 1), ("node", 2))), (1, (("edge", 0),)), (2, (("node", 7),)))


class Ranks(unittest.TestCase):

    def test_node_kids(self):
        self.assertEqual([node_kids(way) for way in WAYS], [[5, 2], [], [7]])

    def test_raised_and_lowered(self):
        self.assertEqual(raised((0, 2, 1)), [(1, 2, 1), (0, 3, 1), (0, 2, 2)])
        self.assertEqual(lowered((0, 2, 1)), [(0, 1, 1), (0, 2, 0)])
        self.assertEqual([raised(()), lowered(()), lowered((0, 0))], [[], [], []])

    def test_first_border(self):
        self.assertEqual(first_border(WAYS), [(0, (0, 0)), (1, ()), (2, (0,))])
        self.assertEqual(first_border(()), [])

    def test_border(self):
        taken = dict.fromkeys([(0, (0, 0)), (0, (1, 0)), (0, (0, 1)), (2, (0, 2))], True)
        border = [ranks for ranks in itertools.product(range(4), repeat=2) if is_border(0, ranks, taken)]
        self.assertEqual(border, [(0, 2), (1, 1), (2, 0)])
        self.assertEqual(border_behind((0, (1, 0)), taken), [(0, (2, 0)), (0, (1, 1))])
        self.assertEqual(border_behind((0, (0, 0)), taken), [])
        self.assertEqual(border_behind((1, ()), taken), [])

    def test_each_border_tuple_comes_once(self):
        # A teller takes rows one by one, so what comes behind each must be just what the border has more.
        lot = random.Random(2)
        for many in (1, 2, 3, 4):
            taken, coming = {}, [(0, (0,) * many)]
            for k in range(25):
                taken[coming.pop(lot.randrange(len(coming)))] = True
                coming.extend(border_behind(list(taken)[-1], taken))
                most = max(max(ranks) for number, ranks in taken) + 2
                border = [(0, ranks) for ranks in itertools.product(range(most), repeat=many) if is_border(0, ranks, taken)]
                self.assertEqual(sorted(coming), border)
                if len(border) > 12 or most > 6:
                    break

    def test_weighed_trees(self):
        for grammar, net in SAMPLES:
            wood = wood_of(grammar, net)
            made = []
            for ways in wood.ways:
                kids = [[made[kid] for kid in node_kids(way)] for way in ways]
                trees = [weighed_tree(wood, way, some) for way, some in zip(ways, kids)]
                for weight, numbers, tree in trees:
                    self.assertEqual((weight, numbers), (weight_of(grammar, net, tree), row_of(tree)))
                made.append(trees[0])

    def test_kids_stay(self):
        wood = wood_of(PAIRS, row("a b"))
        kids = [weighed_tree(wood, wood.ways[node][0], []) for node in range(2)]
        kept = copy.deepcopy(kids)
        weighed_tree(wood, wood.ways[wood.top][0], kids)
        self.assertEqual(kids, kept)


if __name__ == "__main__":
    unittest.main()
