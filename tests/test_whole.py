"""Points [1] and [2] over the whole program, at the bounds that the document tells."""

import unittest

from kbestwood.grammars import Grammar, Rule
from kbestwood.learning import counts_of, learnt, taught
from kbestwood.listing import count_of
from kbestwood.lumps import inside, passing, total
from kbestwood.meanings import Distinct, telling
from kbestwood.nets import Net, row_net
from kbestwood.papers import paper_holds, paper_trees
from kbestwood.reader import grammar_text, read_grammar
from kbestwood.scales import lumps_beside
from kbestwood.session import answers
from kbestwood.teller import Teller, first_trees
from kbestwood.trees import before, tree_fault, tree_text, weight_of, words_of
from kbestwood.woods import wood_of
from samples import PAIRS, first_by_hand, grammar_of, row

RULES = [
    "s1 S -> A B : 1/2 tag s", "s2 S -> S C : 1/3", "s3 S -> D : 2/7", "a1 A -> a : 1/2 tag a", "a2 A -> A a : 1/5",
    "a3 A -> E E : 1/2 under s1 d1", "b1 B -> b : 1/3", "b2 B -> a B : 2/5 under s1 b2", "b3 B -> F a : 1/2 tag f", "c1 C -> c : 1",
    "c2 C -> G : 1/2 under s2", "c3 C -> a : 2/3", "d1 D -> A A : 1/4 tag d", "d2 D -> b F : 1/3", "e1 E -> a : 1/3",
    "e2 E -> b G a : 1/2 tag e", "f1 F -> S B : 1/6", "f2 F -> a : 3/4", "g1 G -> c C : 1/7", "g2 G -> a : 1/9 under c2"]

EDGES = [(at, at + 1, "abac"[at % 4], (at % 3 + 1, 1)) for at in range(12)] + [(at, at + 1, "a", (1, 2)) for at in range(12)]
EDGES += [(at, at + 1, "b", (2, 3)) for at in range(1, 12)] + [(at, at + 2, "c", (1, 4)) for at in range(0, 10, 2)]


class AtTheBounds(unittest.TestCase):

    def woods(self):
        for scale in ("cost", "chance"):
            yield wood_of(grammar_of(*RULES, scale=scale), Net(12, EDGES))

    def test_the_bounds(self):
        for wood in self.woods():
            self.assertEqual(len(wood.grammar.rules), 20)
            self.assertEqual(len({rule.head for rule in wood.grammar.rules}), 8)
            self.assertEqual((wood.net.places, len(wood.net.edges)), (12, 40))
            self.assertGreater(sum(len(ways) for ways in wood.ways), 1400)
            self.assertLessEqual(sum(len(ways) for ways in wood.ways), 2000)
            self.assertGreater(count_of(wood), 20 * 10 ** 6)

    def test_the_first_trees_and_their_paper(self):
        for wood in self.woods():
            asked = Teller(wood)
            trees = asked.more(100) + asked.more(200)
            self.assertEqual(first_trees(wood, 300), trees)
            self.assertEqual(trees[:9], first_by_hand(wood, 9))
            for one, other in zip(trees, trees[1:]):
                self.assertTrue(before(wood.grammar, wood.net, one, other))
            for tree in trees:
                self.assertEqual(tree_fault(wood.grammar, wood.net, tree), "")
            paper = asked.paper()
            self.assertTrue(paper_holds(wood, paper))
            self.assertEqual(paper_trees(wood, paper, wood.top), trees)

    def test_lumps(self):
        for wood in self.woods():
            self.assertEqual(total(wood)[0], count_of(wood))
            self.assertEqual(inside(wood)[wood.top], total(wood))
            whole = (0, (0, 1))
            for lump in passing(wood)[wood.top]:
                whole = lumps_beside(whole, lump)
            self.assertEqual(whole, total(wood))

    def test_meanings_and_learning(self):
        for wood in self.woods():
            trees = first_trees(wood, 300)
            tellings = [telling(wood.grammar, wood.net, tree) for tree in trees]
            told = [tree for at, tree in enumerate(trees) if tellings[at] not in tellings[:at]]
            self.assertGreater(len(told), 1)
            self.assertLess(len(told), 300)
            self.assertEqual(Distinct(wood, 300).more(300), told)
            counts = counts_of(wood.grammar, trees)
            self.assertEqual([weight != (0, 1) for weight in learnt(wood.grammar, trees)], [count > 0 for count in counts])
            titles = [rule.title for rule, count in zip(wood.grammar.rules, counts) if count]
            self.assertEqual([rule.title for rule in taught(wood.grammar, trees).rules], titles)

    def test_a_session(self):
        for wood in self.woods():
            grammar, net = wood.grammar, wood.net
            edges = [f"edge {begin} {end} {word} {top}/{bottom}" for begin, end, word, (top, bottom) in net.edges]
            deeds = ["net 12"] + edges + ["best 200", "more 100", "distinct 300 300", "total", "learn 300"]
            text = "\n".join([grammar_text(grammar)] + deeds)
            self.assertLessEqual(len(text), 6000)
            got = answers(text)
            trees = first_trees(wood, 300)
            self.assertEqual([line.split(" ", 1)[1] for line in got[0] + got[1]], [tree_text(grammar, net, tree) for tree in trees])
            self.assertEqual([len(answer) for answer in got], [200, 100, len(Distinct(wood, 300).more(300)), 2, 20])
            self.assertEqual(got[3][0], str(count_of(wood)))


class Copies(unittest.TestCase):

    def test_objects_keep_copies(self):
        parts, under = ["S", "S"], ["s1"]
        rule = Rule("s1", "S", parts, (1, 1), "", under)
        rules = [rule, Rule("s2", "S", ["a"], (1, 1))]
        grammar = Grammar("cost", "S", rules)
        edges = [(0, 1, "a", (0, 1))]
        net = Net(1, edges)
        words = ["a"]
        other = row_net(words, "cost")
        for kept in (parts, under, rules, edges, words):
            kept.clear()
        self.assertEqual((rule.parts, rule.under), (("S", "S"), ("s1",)))
        self.assertEqual(len(grammar.rules), 2)
        self.assertEqual((len(net.edges), len(other.edges)), (1, 1))
        self.assertEqual(first_trees(wood_of(grammar, net), 2), [(1, (0,))])

    def test_nothing_handed_in_is_changed(self):
        grammar, net = read_grammar(grammar_text(PAIRS)), row("a b a")
        wood = wood_of(grammar, net)
        kept = (grammar_text(grammar), net.edges, wood.nodes, wood.ways, wood.top)
        asked = Teller(wood)
        trees = asked.more(2)
        paper = asked.paper()
        rows = [(ended, list(rows)) for ended, rows in paper]
        trees_kept = list(trees)
        paper_holds(wood, paper)
        paper_trees(wood, paper, wood.top)
        for tell in (counts_of, learnt, taught):
            tell(grammar, trees)
        for tree in trees:
            for tell in (weight_of, telling, tree_text, tree_fault):
                tell(grammar, net, tree)
            words_of(net, tree)
        for tell in (inside, total, passing, count_of):
            tell(wood)
        Distinct(wood, 5).more(2)
        self.assertEqual((trees, paper), (trees_kept, rows))
        self.assertEqual((grammar_text(grammar), net.edges, wood.nodes, wood.ways, wood.top), kept)

    def test_the_same_each_time(self):
        for scale in ("cost", "chance"):
            told = []
            for k in range(2):
                wood = wood_of(grammar_of(*RULES, scale=scale), Net(12, EDGES))
                asked = Teller(wood)
                told.append((wood.nodes, wood.ways, wood.top, asked.more(20), asked.paper(), passing(wood), total(wood)))
            self.assertEqual(told[0], told[1])


if __name__ == "__main__":
    unittest.main()
