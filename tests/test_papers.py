"""Points [20] and [21]: when a paper holds, and the trees of its rows."""

import copy
import inspect
import itertools
import random
import unittest

from kbestwood import papers
from kbestwood.nets import Net
from kbestwood.papers import paper_holds, paper_trees
from kbestwood.teller import Teller
from kbestwood.woods import wood_of
from samples import (DOGS, EMPTY, LATTICE, PAIRS, PAIRS_OF_CHANCE, RICHER, SAMPLES, alike, full_paper, grammar_of, many_trees,
                     order_key, random_samples, row, trees_by_node)

PAIR_GRAMMAR = grammar_of("s1 S -> A A : 1", "a1 A -> a : 1")


def pair_wood(left, right):
    """The wood of pairs of edges of told weights; its top has one way, with two node kids."""
    edges = [(0, 1, "a", (weight, 1)) for weight in left] + [(1, 2, "a", (weight, 1)) for weight in right]
    return wood_of(PAIR_GRAMMAR, Net(2, edges))


def small_woods():
    """Woods whose nodes all stand for few trees."""
    samples = SAMPLES + RICHER[:1] + RICHER[2:3] + RICHER[4:5] + random_samples(60)
    woods = [wood_of(*sample) for sample in samples + [alike(*sample) for sample in samples]]
    return [wood for wood in woods if max([len(pairs) for pairs in trees_by_node(wood)], default=0) <= 60]


def kids_of(way):
    """The numbers of a way's node kids."""
    return [kid for form, kid in way[1] if form == "node"]


def tree_by_hand(way, ranks, trees):
    """The tree for which ranks of a way stand."""
    left = list(ranks)
    return (way[0], tuple(trees[kid][left.pop(0)] if form == "node" else kid for form, kid in way[1]))


def holds_by_hand(wood, paper):
    """Whether a paper holds, clause by clause as the document tells it, with all tuples of ranks gone through."""
    trees = []
    for node, (ended, rows) in enumerate(paper):
        ways = wood.ways[node]
        for number, ranks in rows:
            if number < 0 or number >= len(ways) or len(ranks) != len(kids_of(ways[number])):
                return False
            if any(rank < 0 or rank >= len(paper[kid][1]) for kid, rank in zip(kids_of(ways[number]), ranks)):
                return False
        trees.append([tree_by_hand(ways[number], ranks, trees) for number, ranks in rows])
        keys = [order_key(wood.grammar, wood.net, tree) for tree in trees[node]]
        if any(one >= other for one, other in zip(keys, keys[1:])):
            return False
        if ended or rows:
            for number, way in enumerate(ways):
                if not all(is_behind(wood, paper, node, way, ranks, trees) for ranks in border_by_hand(paper, way, number, rows)):
                    return False
    return True


def border_by_hand(paper, way, number, rows):
    """The border tuples of a way."""
    taken = [ranks for other, ranks in rows if other == number]
    for ranks in itertools.product(*[range(len(paper[kid][1]) + 2) for kid in kids_of(way)]):
        lower = [ranks[:at] + (rank - 1,) + ranks[at + 1:] for at, rank in enumerate(ranks) if rank > 0]
        if ranks not in taken and all(one in taken for one in lower):
            yield ranks


def is_behind(wood, paper, node, way, ranks, trees):
    """Whether a border tuple is as the last clause asks for."""
    pairs = [(rank, len(paper[kid][1]), paper[kid][0]) for kid, rank in zip(kids_of(way), ranks)]
    if any(rank == many and ended for rank, many, ended in pairs):
        return True
    if paper[node][0] or any(rank >= many for rank, many, ended in pairs):
        return False
    last = order_key(wood.grammar, wood.net, trees[node][-1])
    return last < order_key(wood.grammar, wood.net, tree_by_hand(way, ranks, trees))


class Interface(unittest.TestCase):

    def test_arguments(self):
        told = {"paper_holds": ["wood", "paper"], "paper_trees": ["wood", "paper", "node"]}
        for name, arguments in told.items():
            self.assertEqual(list(inspect.signature(getattr(papers, name)).parameters), arguments)


class Holds(unittest.TestCase):

    def check(self, wood, paper, holds):
        """Looks what is told of a paper, which is to stay as it was."""
        kept = copy.deepcopy(paper)
        self.assertIs(paper_holds(wood, paper), holds)
        self.assertEqual(paper, kept)

    def test_no_rows(self):
        for grammar, net in SAMPLES:
            wood = wood_of(grammar, net)
            self.check(wood, [(False, []) for node in wood.nodes], True)
            if wood.nodes:
                self.check(wood, [(True, []) for node in wood.nodes], False)
                for at in range(len(wood.nodes)):
                    self.check(wood, [(node == at, []) for node in range(len(wood.nodes))], False)

    def test_all_rows(self):
        for number, wood in enumerate(small_woods()):
            with self.subTest(number=number):
                paper = full_paper(wood)
                self.check(wood, paper, True)
                if wood.top is not None:
                    rows = paper[wood.top][1]
                    for many in range(len(rows) + 1):
                        paper[wood.top] = (False, rows[:many])
                        self.check(wood, paper, True)
                    for many in range(len(rows)):
                        paper[wood.top] = (True, rows[:many])
                        self.check(wood, paper, False)

    def test_the_first_rows_of_each_node(self):
        # Each node has as many rows, so for some there are too few of their kids'.
        for number, wood in enumerate(small_woods()):
            with self.subTest(number=number):
                full = full_paper(wood)
                for most in (0, 1, 2, 3, 5):
                    for ended in (False, True):
                        paper = [(ended and most >= len(rows), rows[:most]) for end, rows in full]
                        self.check(wood, paper, holds_by_hand(wood, paper))

    def test_tellers_papers(self):
        for number, wood in enumerate(small_woods()):
            with self.subTest(number=number):
                asked = Teller(wood)
                for many in (0, 1, 1, 2, 5, 300):
                    asked.more(many)
                    paper = asked.paper()
                    self.assertTrue(holds_by_hand(wood, paper))
                    self.check(wood, paper, True)

    def test_a_wood_without_nodes(self):
        for grammar, net in ((DOGS, row("dogs")), (PAIRS, EMPTY)):
            self.check(wood_of(grammar, net), [], True)


class Clauses(unittest.TestCase):
    """For each clause of [20] papers that break it alone."""

    def setUp(self):
        # Of A from 0 to 1 there are two trees, from 1 to 2 three; weights together: 1 2 | 10 20 30.
        self.wood = pair_wood([1, 2], [10, 20, 30])
        self.left = self.wood.nodes.index(("A", -1, 0, 1))
        self.right = self.wood.nodes.index(("A", -1, 1, 2))
        self.top = self.wood.top
        self.full = full_paper(self.wood)

    def refused(self, node, ended, rows):
        paper = copy.deepcopy(self.full)
        self.assertTrue(paper_holds(self.wood, paper))
        paper[node] = (ended, rows)
        kept = copy.deepcopy(paper)
        self.assertIs(paper_holds(self.wood, paper), False)
        self.assertEqual(paper, kept)
        return paper

    def holds(self, node, ended, rows):
        paper = copy.deepcopy(self.full)
        paper[node] = (ended, rows)
        self.assertIs(paper_holds(self.wood, paper), True)

    def test_the_full_paper(self):
        self.assertEqual(self.full[self.top], (True, [(0, (0, 0)), (0, (1, 0)), (0, (0, 1)), (0, (1, 1)), (0, (0, 2)),
                                                      (0, (1, 2))]))
        self.assertEqual([len(self.full[node][1]) for node in (self.left, self.right)], [2, 3])

    def test_numbers_of_ways(self):
        rows = self.full[self.top][1]
        for number in (-1, 1, 2, -2, 10 ** 30, -10 ** 30):
            for at in range(len(rows)):
                for ended in (True, False):
                    self.refused(self.top, ended, rows[:at] + [(number, rows[at][1])] + rows[at + 1:])
        edges = self.full[self.right][1]
        for number in (-1, -3, 3):
            self.refused(self.right, True, edges[:-1] + [(number, ())])

    def test_numbers_of_ranks(self):
        rows = self.full[self.top][1]
        for at in range(len(rows)):
            number, ranks = rows[at]
            for other in (ranks[:1], (), ranks + (0,), ranks + (1,), ranks + ranks, ranks[1:], (0,) + ranks):
                for ended in (True, False):
                    self.refused(self.top, ended, rows[:at] + [(number, other)] + rows[at + 1:])
        edges = self.full[self.left][1]
        for at in range(2):
            self.refused(self.left, True, edges[:at] + [(edges[at][0], (0,))] + edges[at + 1:])

    def test_ranks_that_are_not_there(self):
        # A rank below nought would be that of a row, too, if it were counted from the end.
        rows = self.full[self.top][1]
        for number, ranks in ((3, (1, -2)), (1, (-1, 0)), (0, (-2, 0)), (0, (0, -3)), (5, (2, 2)), (5, (1, 3)), (5, (1, 10 ** 30)),
                              (0, (-10 ** 30, 0)), (5, (-1, 2))):
            for ended in (True, False):
                self.refused(self.top, ended, rows[:number] + [(0, ranks)] + rows[number + 1:])
                self.refused(self.top, ended, rows[:number + 1] + [(0, ranks)] + rows[number + 1:])
        self.refused(self.top, False, rows + [(0, (2, 0))])
        self.refused(self.top, False, rows + [(0, (0, 3))])

    def test_the_order_of_rows(self):
        rows = self.full[self.top][1]
        for at, other in itertools.combinations(range(6), 2):
            turned = list(rows)
            turned[at], turned[other] = turned[other], turned[at]
            for ended in (True, False):
                self.refused(self.top, ended, turned)
        for at in range(6):
            for ended in (True, False):
                self.refused(self.top, ended, rows[:at + 1] + rows[at:])
                if at < 5:
                    self.refused(self.top, ended, rows + [rows[at]])

    def test_rows_away(self):
        rows = self.full[self.top][1]
        for at in range(5):
            for ended in (True, False):
                self.refused(self.top, ended, rows[:at] + rows[at + 1:])
        self.refused(self.top, True, rows[:5])
        self.refused(self.top, True, [])
        self.refused(self.top, False, rows[1:2])
        for many in range(7):
            self.holds(self.top, False, rows[:many])

    def test_ways_without_node_kids(self):
        edges = self.full[self.right][1]
        for rows in (edges[:2], edges[1:], edges[:1] + edges[2:], []):
            paper = copy.deepcopy(self.full)
            paper[self.top] = (False, [])
            paper[self.right] = (True, rows)
            self.assertFalse(paper_holds(self.wood, paper))
            paper[self.right] = (False, rows)
            self.assertIs(paper_holds(self.wood, paper), rows in (edges[:2], []))

    def test_ends_on_which_something_leans(self):
        for node in (self.left, self.right):
            self.refused(node, False, self.full[node][1])
        # From its second row on the top leans on the end of the left ones, from its fifth on that of the right ones.
        for many in range(7):
            paper = copy.deepcopy(self.full)
            paper[self.top] = (False, self.full[self.top][1][:many])
            paper[self.right] = (False, self.full[self.right][1])
            self.assertIs(paper_holds(self.wood, paper), many <= 4)
            paper[self.left] = (False, self.full[self.left][1])
            self.assertIs(paper_holds(self.wood, paper), many <= 1)

    def test_kids_with_too_few_rows(self):
        for many in range(7):
            paper = copy.deepcopy(self.full)
            paper[self.top] = (False, self.full[self.top][1][:many])
            paper[self.right] = (False, self.full[self.right][1][:2])
            self.assertIs(paper_holds(self.wood, paper), many <= 2)

    def test_an_end_that_is_told_too_early(self):
        paper = copy.deepcopy(self.full)
        paper[self.top] = (True, [one for one in self.full[self.top][1] if one[1][1] < 2])
        paper[self.right] = (True, self.full[self.right][1][:2])
        self.assertFalse(paper_holds(self.wood, paper))
        paper[self.right] = (False, self.full[self.right][1][:2])
        self.assertFalse(paper_holds(self.wood, paper))

    def test_like_weights(self):
        # Here rows alone tell which tree is ahead.
        wood = pair_wood([1, 1], [1, 1])
        full = full_paper(wood)
        self.assertEqual(full[wood.top][1], [(0, (0, 0)), (0, (0, 1)), (0, (1, 0)), (0, (1, 1))])
        self.assertTrue(paper_holds(wood, full))
        full[wood.top] = (True, [(0, (0, 0)), (0, (1, 0)), (0, (0, 1)), (0, (1, 1))])
        self.assertFalse(paper_holds(wood, full))
        full[wood.top] = (False, [(0, (0, 0)), (0, (1, 0))])
        self.assertFalse(paper_holds(wood, full))

    def test_a_way_that_no_row_has(self):
        wood = wood_of(grammar_of("s1 S -> a : 1", "s2 S -> A : 2", "a1 A -> a : 2"), row("a"))
        full = full_paper(wood)
        rows = full[wood.top][1]
        self.assertEqual(len(rows), 2)
        for ended, some, holds in ((True, rows, True), (False, rows, True), (False, rows[:1], True), (True, rows[:1], False),
                                   (False, rows[1:], False), (True, rows[1:], False), (False, [], True), (True, [], False)):
            paper = copy.deepcopy(full)
            paper[wood.top] = (ended, some)
            self.assertIs(paper_holds(wood, paper), holds)


class ByLot(unittest.TestCase):

    def changed(self, lot, wood, paper):
        """A paper with one thing changed."""
        paper = copy.deepcopy(paper)
        node = lot.randrange(len(paper))
        ended, rows = paper[node]
        deed = lot.randrange(7)
        at = lot.randrange(len(rows)) if rows else 0
        if deed == 0:
            ended = not ended
        elif deed == 1:
            rows = rows[:lot.randint(0, len(rows))]
        elif deed == 2 and rows:
            rows.pop(at)
        elif deed == 3 and rows:
            other = lot.randrange(len(rows))
            rows[at], rows[other] = rows[other], rows[at]
        elif deed == 4 and rows:
            rows.insert(at, lot.choice(rows))
        elif deed == 5 and rows:
            rows[at] = (rows[at][0] + lot.choice([-1, 1]), rows[at][1])
        elif deed == 6 and rows and rows[at][1]:
            ranks = list(rows[at][1])
            ranks[lot.randrange(len(ranks))] += lot.choice([-1, 1])
            rows[at] = (rows[at][0], tuple(ranks))
        paper[node] = (ended, rows)
        return paper

    def test_changed_papers(self):
        lot = random.Random(5)
        held = {True: 0, False: 0}
        for wood in [wood for wood in small_woods() if wood.nodes]:
            asked = Teller(wood)
            asked.more(lot.randint(1, 4))
            for paper in (asked.paper(), full_paper(wood)):
                for k in range(12):
                    paper = self.changed(lot, wood, paper)
                    holds = holds_by_hand(wood, paper)
                    held[holds] += 1
                    self.assertIs(paper_holds(wood, paper), holds)
                    if not holds and lot.random() < 0.7:
                        paper = asked.paper()
        self.assertGreater(held[True], 300)
        self.assertGreater(held[False], 300)


class Trees(unittest.TestCase):

    def test_full_papers(self):
        for number, wood in enumerate(small_woods()):
            with self.subTest(number=number):
                paper = full_paper(wood)
                kept = copy.deepcopy(paper)
                for node, pairs in enumerate(trees_by_node(wood)):
                    self.assertEqual(paper_trees(wood, paper, node), [tree for tree, row in pairs])
                self.assertEqual(paper, kept)

    def test_tellers_papers(self):
        for number, wood in enumerate(small_woods()):
            with self.subTest(number=number):
                asked = Teller(wood)
                for many in (0, 1, 2, 300):
                    asked.more(many)
                    paper = asked.paper()
                    for node, pairs in enumerate(trees_by_node(wood)):
                        trees = [tree for tree, row in pairs][:len(paper[node][1])]
                        self.assertEqual(paper_trees(wood, paper, node), trees)

    def test_a_node_without_rows(self):
        wood = wood_of(PAIRS, row("a b a"))
        for node in range(len(wood.nodes)):
            self.assertEqual(paper_trees(wood, [(False, []) for other in wood.nodes], node), [])
        paper = full_paper(wood)
        paper[wood.top] = (False, [])
        self.assertEqual(paper_trees(wood, paper, wood.top), [])

    def test_written_out(self):
        wood = pair_wood([2, 1], [3])
        paper = full_paper(wood)
        self.assertEqual(paper_trees(wood, paper, wood.top), [(0, ((1, (1,)), (1, (2,)))), (0, ((1, (0,)), (1, (2,))))])
        self.assertEqual(paper_trees(wood, paper, wood.nodes.index(("A", -1, 0, 1))), [(1, (1,)), (1, (0,))])

    def test_the_list_is_the_askers_own(self):
        wood = wood_of(PAIRS_OF_CHANCE, LATTICE)
        asked = Teller(wood)
        asked.more(9)
        paper = asked.paper()
        trees = paper_trees(wood, paper, wood.top)
        trees.clear()
        self.assertEqual(paper_trees(wood, paper, wood.top), asked.told())

    def test_great_papers(self):
        grammar, net = many_trees(12, "chance", 3)
        wood = wood_of(grammar, net)
        asked = Teller(wood)
        trees = asked.more(300)
        paper = asked.paper()
        self.assertTrue(paper_holds(wood, paper))
        self.assertEqual(paper_trees(wood, paper, wood.top), trees)
        ended, rows = paper[wood.top]
        for at in (0, 150, 298):
            paper[wood.top] = (False, rows[:at] + rows[at + 1:])
            self.assertFalse(paper_holds(wood, paper))
        paper[wood.top] = (True, rows)
        self.assertFalse(paper_holds(wood, paper))
        paper[wood.top] = (False, rows[:299])
        self.assertTrue(paper_holds(wood, paper))


if __name__ == "__main__":
    unittest.main()
