"""Points [19] and [21]: the teller and its paper; [1] and [2] as far as they touch it."""

import copy
import functools
import inspect
import itertools
import unittest

from kbestwood import teller
from kbestwood.nets import Net
from kbestwood.papers import paper_holds, paper_trees
from kbestwood.teller import Teller, first_trees
from kbestwood.trees import tree_fault
from kbestwood.woods import wood_of
from samples import (ALL_TIED, CHAINS, DOGS, EMPTY, LATTICE, ONE, PAIRS, RICHER, SAMPLES, TIED_TOP, all_trees, alike,
                     first_by_hand, full_paper, grammar_of, in_order, many_trees, order_key, random_samples, row, trees_by_node)

NO_TREES = [(DOGS, row("dogs")), (ALL_TIED, row("a")), (PAIRS, EMPTY), (PAIRS, row("a c a"))]


@functools.lru_cache(maxsize=None)
def woods_and_trees():
    """Woods of the samples, each with all its trees in their order."""
    samples = SAMPLES + RICHER + random_samples(120)
    made = []
    for grammar, net in samples + [alike(*sample) for sample in samples]:
        trees = all_trees(grammar, net)
        if len(trees) <= 300:
            made.append((wood_of(grammar, net), in_order(grammar, net, trees)))
    return made


class Interface(unittest.TestCase):

    def test_arguments(self):
        told = {"Teller": ["wood"], "first_trees": ["wood", "many"]}
        for name, arguments in told.items():
            self.assertEqual(list(inspect.signature(getattr(teller, name)).parameters), arguments)
        for name, arguments in {"more": ["self", "many"], "told": ["self"], "paper": ["self"]}.items():
            self.assertEqual(list(inspect.signature(getattr(Teller, name)).parameters), arguments)


class Telling(unittest.TestCase):

    def test_the_samples_are_many_enough(self):
        sizes = [len(trees) for wood, trees in woods_and_trees()]
        self.assertGreater(len([size for size in sizes if size == 0]), 5)
        self.assertGreater(len([size for size in sizes if 1 <= size <= 5]), 20)
        self.assertGreater(len([size for size in sizes if size > 20]), 20)

    def test_all_at_once(self):
        for number, (wood, trees) in enumerate(woods_and_trees()):
            with self.subTest(number=number):
                self.assertEqual(Teller(wood).more(len(trees)), trees)
                self.assertEqual(Teller(wood).more(len(trees) + 1), trees)
                self.assertEqual(first_trees(wood, len(trees)), trees)
                self.assertEqual(first_trees(wood, len(trees) + 7), trees)
                self.assertEqual(first_trees(wood, len(trees) // 2), trees[:len(trees) // 2])

    def test_one_by_one(self):
        for number, (wood, trees) in enumerate(woods_and_trees()):
            with self.subTest(number=number):
                asked = Teller(wood)
                for at, tree in enumerate(trees):
                    self.assertEqual(asked.told(), trees[:at])
                    self.assertEqual(asked.more(1), [tree])
                for k in range(2):
                    self.assertEqual(asked.told(), trees)
                    self.assertEqual(asked.more(1), [])

    def test_in_pieces(self):
        for number, (wood, trees) in enumerate(woods_and_trees()):
            for pieces in ([2, 3], [1, 4, 0, 2], [5, -1, 1], [0, 7], [-3, 3, -300, 1]):
                with self.subTest(number=number, pieces=pieces):
                    asked, done = Teller(wood), 0
                    while done < len(trees):
                        for many in pieces:
                            self.assertEqual(asked.more(many), trees[done:done + max(many, 0)])
                            done = min(done + max(many, 0), len(trees))
                            self.assertEqual(asked.told(), trees[:done])
                    self.assertEqual(asked.more(3), [])
                    self.assertEqual(asked.told(), trees)

    def test_nought_and_below(self):
        for grammar, net in SAMPLES:
            wood = wood_of(grammar, net)
            for many in (0, -1, -5, -10 ** 30):
                asked = Teller(wood)
                self.assertEqual(asked.more(many), [])
                self.assertEqual(asked.told(), [])
                self.assertEqual(first_trees(wood, many), [])
                self.assertEqual(asked.more(2), first_trees(wood, 2))

    def test_more_than_there_are(self):
        wood = wood_of(PAIRS, row("a b b a"))
        trees = in_order(PAIRS, wood.net, all_trees(PAIRS, wood.net))
        for many in (5, 6, 7, 10 ** 30):
            asked = Teller(wood)
            self.assertEqual(asked.more(many), trees)
            for again in (1, 0, -1, 5, 10 ** 30):
                self.assertEqual(asked.more(again), [])
                self.assertEqual(asked.told(), trees)

    def test_no_tree(self):
        for grammar, net in NO_TREES:
            asked = Teller(wood_of(grammar, net))
            for many in (0, 1, -1, 300):
                self.assertEqual(asked.more(many), [])
                self.assertEqual(asked.told(), [])
                self.assertEqual(asked.paper(), [])
                self.assertEqual(first_trees(asked.wood, many), [])

    def test_written_out(self):
        net = Net(1, [(0, 1, "a", (1, 2)), (0, 1, "a", (1, 3)), (0, 1, "a", (1, 2))])
        for scale, order in (("cost", [(1, 1), (1, 0), (1, 2), (0, 1), (0, 0), (0, 2)]),
                             ("chance", [(0, 0), (0, 2), (0, 1), (1, 0), (1, 2), (1, 1)])):
            asked = Teller(wood_of(grammar_of("s1 S -> a : 5", "s2 S -> a : 1", scale=scale), net))
            self.assertEqual(asked.more(2) + asked.more(9), [(rule, (edge,)) for rule, edge in order])
        bark = (0, ((1, (0,)), (2, (1,))))
        self.assertEqual(first_trees(wood_of(DOGS, row("dogs bark")), 1), [bark])

    def test_weights_below_nought(self):
        grammar = grammar_of("s1 S -> S S : -1/2", "s2 S -> a : 0", "s3 S -> a : -3", "s4 S -> S S : 1/3")
        net = Net(3, [(at, at + 1, "a", (-at, 1)) for at in range(3)] + [(0, 2, "a", (-7, 2)), (1, 3, "a", (1, 9))])
        self.assertEqual(first_trees(wood_of(grammar, net), 300), in_order(grammar, net, all_trees(grammar, net)))

    def test_rules_of_one_part(self):
        for grammar in (CHAINS, TIED_TOP):
            for words in ("a", "a a", "a a a"):
                trees = in_order(grammar, row(words), all_trees(grammar, row(words)))
                self.assertEqual(first_trees(wood_of(grammar, row(words)), 60), trees[:60])


class TheAskersOwn(unittest.TestCase):

    def test_lists_told_and_changed(self):
        wood = wood_of(PAIRS, LATTICE)
        trees = in_order(PAIRS, LATTICE, all_trees(PAIRS, LATTICE))
        self.assertGreater(len(trees), 8)
        asked = Teller(wood)
        piece = asked.more(3)
        kept = list(piece)
        told = asked.told()
        piece.reverse()
        piece.append("x")
        told.clear()
        self.assertEqual(asked.told(), kept)
        earlier = asked.told()
        self.assertEqual(asked.more(3), trees[3:6])
        self.assertEqual(earlier, kept)
        self.assertEqual(asked.told(), trees[:6])
        first = first_trees(wood, 4)
        first.clear()
        self.assertEqual(first_trees(wood, 4), trees[:4])

    def test_two_tellers_of_one_wood(self):
        for wood, trees in woods_and_trees()[:60]:
            one, other = Teller(wood), Teller(wood)
            at = other_at = 0
            for many, other_many in ((1, 0), (2, 5), (0, 1), (4, 4), (1, 1), (300, 2)):
                self.assertEqual(one.more(many), trees[at:at + many])
                self.assertEqual(other.more(other_many), trees[other_at:other_at + other_many])
                at, other_at = at + many, other_at + other_many
                self.assertEqual(one.told(), trees[:at])
                self.assertEqual(other.told(), trees[:other_at])
                one.paper()

    def test_tellers_of_two_woods(self):
        woods = woods_and_trees()
        for (wood, trees), (other_wood, other_trees) in zip(woods, woods[7:]):
            one, other = Teller(wood), Teller(other_wood)
            for at in range(6):
                self.assertEqual(one.more(1), trees[at:at + 1])
                self.assertEqual(other.more(2), other_trees[2 * at:2 * at + 2])

    def test_the_wood_stays(self):
        for grammar, net in SAMPLES:
            wood = wood_of(grammar, net)
            kept = copy.deepcopy((wood.nodes, wood.ways, wood.top, net.edges, net.places, grammar.start))
            asked = Teller(wood)
            asked.more(5)
            asked.paper()
            asked.more(300)
            self.assertEqual((wood.nodes, wood.ways, wood.top, net.edges, net.places, grammar.start), kept)


class Great(unittest.TestCase):

    def great_woods(self):
        yield wood_of(*many_trees(11))
        yield wood_of(*many_trees(12, "chance", 3))
        yield wood_of(*alike(*many_trees(12, "cost", 2)))
        grammar = grammar_of("s1 S -> S S : 1/2", "s2 S -> A A : 2", "a1 A -> S : 1", "s3 S -> a : 1", "a2 A -> a : 3",
                             "s4 S -> S a S : 1 under s1", "a3 A -> A A S : 1/3 under a3 s2", "s5 S -> a a : 3")
        yield wood_of(grammar, row(" ".join("a" * 11)))
        # Weights of forty figures above and beneath the stroke.
        great = 10 ** 39
        grammar = grammar_of(f"s1 S -> S S : {great + 7}/{great + 9}", f"s2 S -> S S : {great + 9}/{great + 7}",
                             f"s3 S -> a : {great + 1}/{great + 3}", f"s4 S -> a : {great + 3}/{great + 1}", scale="chance")
        edges = [(at, at + 1, "a", (great + 2 * at + 1, great + 2 * at + 2)) for at in range(12)]
        yield wood_of(grammar, Net(12, edges))

    def test_the_first_ones(self):
        for number, wood in enumerate(self.great_woods()):
            with self.subTest(number=number):
                trees = first_by_hand(wood, 7)
                self.assertEqual(first_trees(wood, 7), trees)
                asked = Teller(wood)
                self.assertEqual([asked.more(many) for many in (1, 2, 0, 3, -1, 1)],
                                 [trees[:1], trees[1:3], [], trees[3:6], [], trees[6:]])

    def test_three_hundred(self):
        for number, wood in enumerate(self.great_woods()):
            with self.subTest(number=number):
                trees = first_trees(wood, 300)
                self.assertEqual(len(trees), 300)
                keys = [order_key(wood.grammar, wood.net, tree) for tree in trees]
                self.assertTrue(all(one < other for one, other in zip(keys, keys[1:])))
                self.assertEqual([tree_fault(wood.grammar, wood.net, tree) for tree in trees], [""] * 300)
                asked = Teller(wood)
                for at in range(0, 300, 60):
                    self.assertEqual(asked.more(60), trees[at:at + 60])
                paper = asked.paper()
                self.assertTrue(paper_holds(wood, paper))
                self.assertEqual(paper_trees(wood, paper, wood.top), trees)

    def test_deep_trees(self):
        kinds = "SABCDEFG"
        rules = [f"{kind.lower()}1 {kind} -> {part} : 1" for kind, part in zip(kinds, kinds[1:])]
        grammar = grammar_of(*rules, "g1 G -> a S : 1", "g2 G -> a : 1")
        net = Net(12, [(at, at + 1, "a", ONE) for at in range(12) for k in range(3)])
        asked = Teller(wood_of(grammar, net))
        trees = asked.more(300)
        choices = itertools.islice(itertools.product(range(3), repeat=12), 300)
        self.assertEqual([tree_edges(tree) for tree in trees],
                         [[3 * at + k for at, k in enumerate(choice)] for choice in choices])
        self.assertTrue(paper_holds(asked.wood, asked.paper()))

    def test_long_weights(self):
        # Forty figures above and beneath the stroke, and weights that differ in the last one alone.
        great = 10 ** 40
        edges = [(at, at + 1, "a", (great - 2 * k - 1, great - 3)) for at in range(5) for k in range(2, 5)]
        for scale in ("cost", "chance"):
            grammar = grammar_of("s1 S -> a S : 1", "s2 S -> a : 1", scale=scale)
            net = Net(5, edges)
            asked = Teller(wood_of(grammar, net))
            self.assertEqual(asked.more(300), in_order(grammar, net, all_trees(grammar, net)))


def tree_edges(tree):
    """The edges of a tree that has its own tree last."""
    edges = []
    while isinstance(tree, tuple):
        edges.extend(tree[1][:-1])
        tree = tree[1][-1]
    return edges + [tree]


class Paper(unittest.TestCase):

    def check(self, wood, asked, trees):
        """Looks whether a teller's paper is as told where it has told some trees."""
        paper = asked.paper()
        self.assertIs(type(paper), list)
        self.assertEqual(len(paper), len(wood.nodes))
        for entry in paper:
            self.assertIs(type(entry), tuple)
            ended, rows = entry
            self.assertIs(type(ended), bool)
            self.assertIs(type(rows), list)
            for number, ranks in rows:
                self.assertIs(type(number), int)
                self.assertIs(type(ranks), tuple)
        self.assertTrue(paper_holds(wood, paper))
        self.assertEqual(asked.told(), trees)
        self.assertEqual(asked.paper(), paper)
        if wood.top is not None:
            self.assertEqual(paper_trees(wood, paper, wood.top), trees)
        return paper

    def test_behind_each_piece(self):
        for number, (wood, trees) in enumerate(woods_and_trees()):
            if wood.top is None or len(trees) > 60:
                continue
            with self.subTest(number=number):
                asked = Teller(wood)
                self.assertEqual(self.check(wood, asked, []), [(False, []) for node in wood.nodes])
                done = 0
                while done < len(trees):
                    for many in (1, 0, 3, -1):
                        asked.more(many)
                        told = min(done + max(many, 0), len(trees))
                        paper = self.check(wood, asked, trees[:told])
                        if told < len(trees):
                            self.assertIs(paper[wood.top][0], False)
                        elif done + many > len(trees):
                            self.assertIs(paper[wood.top][0], True)
                        done = told
                asked.more(1)
                self.assertIs(self.check(wood, asked, trees)[wood.top][0], True)
                asked.more(0)
                self.assertIs(self.check(wood, asked, trees)[wood.top][0], True)

    def test_only_at_the_end(self):
        for number, (wood, trees) in enumerate(woods_and_trees()):
            with self.subTest(number=number):
                asked = Teller(wood)
                asked.more(len(trees) + 1)
                paper = self.check(wood, asked, trees)
                if wood.top is not None:
                    self.assertEqual(paper[wood.top], full_paper(wood)[wood.top])

    def test_rows_are_the_first_ones_of_each_node(self):
        for number, (wood, trees) in enumerate(woods_and_trees()):
            with self.subTest(number=number):
                asked = Teller(wood)
                asked.more(len(trees) // 2 + 1)
                for (ended, rows), pairs in zip(asked.paper(), trees_by_node(wood)):
                    self.assertEqual(rows, [row for tree, row in pairs][:len(rows)])
                    if ended:
                        self.assertEqual(len(rows), len(pairs))

    def test_asking_for_it_changes_nothing_told(self):
        for wood, trees in woods_and_trees()[:80]:
            asked = Teller(wood)
            told = []
            for many in (1, 1, 2, 1, 5):
                asked.paper()
                told.extend(asked.more(many))
                asked.paper()
            self.assertEqual(told, trees[:10])

    def test_papers_are_the_askers_own(self):
        wood = wood_of(PAIRS, LATTICE)
        asked = Teller(wood)
        papers = [asked.paper()]
        kept = [copy.deepcopy(papers[0])]
        for many in (1, 3, 2, 300):
            asked.more(many)
            papers.append(asked.paper())
            kept.append(copy.deepcopy(papers[-1]))
        self.assertEqual(papers, kept)
        trees = asked.told()
        for ended, rows in papers[-1]:
            rows.clear()
        papers[-1].clear()
        self.assertEqual(asked.paper(), kept[-1])
        self.assertEqual(asked.told(), trees)
        other = Teller(wood)
        other.more(2)
        for ended, rows in other.paper():
            rows.append((0, (0, 0)))
        other.paper().append((True, []))
        self.assertEqual(other.more(300), trees[2:])
        self.assertEqual(self.check(wood, other, trees)[wood.top], kept[-1][wood.top])

    def test_great_papers(self):
        for wood in (wood_of(*many_trees(12, "chance", 2)), wood_of(*alike(*many_trees(11)))):
            asked = Teller(wood)
            self.check(wood, asked, [])
            for many in (1, 40, 0, 9):
                asked.more(many)
                self.assertIs(self.check(wood, asked, asked.told())[wood.top][0], False)


if __name__ == "__main__":
    unittest.main()
