"""Points [25] and [26]: what is learnt from trees; [1] and [2] as far as they touch it."""

import copy
import fractions
import inspect
import random
import unittest

from kbestwood import learning
from kbestwood.errors import NoTree
from kbestwood.grammars import Grammar, Rule
from kbestwood.learning import counts_of, learnt, taught
from kbestwood.nets import Net
from kbestwood.reader import grammar_text
from kbestwood.trees import tree_fault
from samples import (DOGS, LATTICE, ONE, PAIRS, RICHER, SAMPLES, TIED, TIED_CHAINS, TIED_TOP, all_trees, grammar_of, numbers_in,
                     random_samples, row)

BARK = (0, ((1, (0,)), (2, (1,))))
SOME = grammar_of("s1 S -> N V : 3 tag says", "s2 S -> V : 1", "n1 N -> a : 2 tag thing", "n2 N -> a : 1/2 under s1 s3 n3 s1",
                  "n3 N -> b N : -1", "v1 V -> a : 0", "v2 V -> b : 7 under s2 s1", "s3 S -> N : 1", "x1 X -> a : 1",
                  "x2 X -> b X : 1")


def samples():
    """Grammars and nets that have trees."""
    return [sample for sample in SAMPLES + RICHER + random_samples(80) if all_trees(*sample)]


def counts_by_hand(grammar, trees):
    """How often each rule stands in some trees."""
    numbers = [number for tree in trees for number in numbers_in(tree)[0]]
    return [numbers.count(number) for number in range(len(grammar.rules))]


def chance_of(fractions_told, counts):
    """The product of fractions, each as often as its rule stands there."""
    whole = fractions.Fraction(1)
    for one, count in zip(fractions_told, counts):
        whole *= fractions.Fraction(*one) ** count
    return whole


class Interface(unittest.TestCase):

    def test_arguments(self):
        for name in ("counts_of", "learnt", "taught"):
            self.assertEqual(list(inspect.signature(getattr(learning, name)).parameters), ["grammar", "trees"])


class Counts(unittest.TestCase):

    def test_written_out(self):
        one = (0, ((2, (0,)), (5, (1,))))
        other = (0, ((4, (0, (3, (1,)))), (6, (2,))))
        lone = (1, ((6, (0,)),))
        self.assertEqual(counts_of(SOME, [one]), [1, 0, 1, 0, 0, 1, 0, 0, 0, 0])
        self.assertEqual(counts_of(SOME, [one, other, lone]), [2, 1, 1, 1, 1, 1, 2, 0, 0, 0])
        self.assertEqual(counts_of(SOME, [one, one, one]), [3, 0, 3, 0, 0, 3, 0, 0, 0, 0])
        self.assertEqual(counts_of(PAIRS, [(0, ((0, ((1, (0,)), (1, (1,)))), (2, (2,))))]), [2, 2, 1])
        self.assertEqual(learnt(SOME, [one, other, lone]), [(2, 3), (1, 3), (1, 3), (1, 3), (1, 3), (1, 3), (2, 3), (0, 1),
                                                            (0, 1), (0, 1)])
        self.assertEqual(learnt(SOME, [one]), [ONE, (0, 1), ONE, (0, 1), (0, 1), ONE] + [(0, 1)] * 4)
        self.assertEqual(learnt(SOME, [one, one]), learnt(SOME, [one]))
        self.assertEqual(learnt(PAIRS, [(0, ((0, ((1, (0,)), (1, (1,)))), (2, (2,))))]), [(2, 5), (2, 5), (1, 5)])

    def test_against_the_trees(self):
        for number, (grammar, net) in enumerate(samples()):
            trees = all_trees(grammar, net)
            for some in (trees[:1], trees[:3], trees[:200], trees[-2:] * 2):
                with self.subTest(number=number):
                    counts = counts_by_hand(grammar, some)
                    self.assertEqual(counts_of(grammar, some), counts)
                    heads = {}
                    for rule, count in zip(grammar.rules, counts):
                        heads[rule.head] = heads.get(rule.head, 0) + count
                    told = learnt(grammar, some)
                    for rule, count, one in zip(grammar.rules, counts, told):
                        self.assertIs(type(one), tuple)
                        whole = fractions.Fraction(count, heads[rule.head]) if count else fractions.Fraction(0)
                        self.assertEqual(one, (whole.numerator, whole.denominator))
                    for head, count in heads.items():
                        whole = sum(fractions.Fraction(*one) for rule, one in zip(grammar.rules, told) if rule.head == head)
                        self.assertEqual(whole, 1 if count else 0)

    def test_nothing_makes_the_product_greater(self):
        lot = random.Random(3)
        for grammar, net in samples():
            trees = all_trees(grammar, net)[:20]
            counts = counts_by_hand(grammar, trees)
            best = chance_of(learnt(grammar, trees), counts)
            for k in range(8):
                others = [lot.randint(1, 9) for rule in grammar.rules]
                if k % 2:
                    # Close by: what is learnt, with a little more or less here and there.
                    others = [100 * count + lot.randint(1, 60) for count in counts]
                heads = {}
                for rule, one in zip(grammar.rules, others):
                    heads[rule.head] = heads.get(rule.head, 0) + one
                told = [(one, heads[rule.head]) for rule, one in zip(grammar.rules, others)]
                self.assertLessEqual(chance_of(told, counts), best)

    def test_edges_that_no_net_has(self):
        for edge in (99, -1, -10 ** 30, 10 ** 30):
            tree = (0, ((1, (edge,)), (2, (edge,))))
            self.assertEqual(counts_of(DOGS, [tree]), [1, 1, 1])
            self.assertEqual(learnt(DOGS, [tree]), [ONE, ONE, ONE])
            self.assertEqual(len(taught(DOGS, [tree]).rules), 3)

    def test_trees_of_two_nets(self):
        trees = all_trees(PAIRS, row("a b")) + all_trees(PAIRS, row("b b a")) + all_trees(PAIRS, row("a"))
        self.assertEqual(counts_of(PAIRS, trees), counts_by_hand(PAIRS, trees))
        self.assertEqual(counts_of(PAIRS, trees), [5, 4, 5])
        self.assertEqual(learnt(PAIRS, trees), [(5, 14), (2, 7), (5, 14)])

    def test_three_hundred_trees(self):
        grammar, net = RICHER[3]
        trees = (all_trees(grammar, net) * 2)[:300]
        self.assertEqual(len(trees), 300)
        self.assertEqual(counts_of(grammar, trees), counts_by_hand(grammar, trees))

    def test_lists_stay_and_are_the_askers_own(self):
        trees = all_trees(PAIRS, LATTICE)[:5]
        kept = copy.deepcopy(trees)
        text = grammar_text(PAIRS)
        for tell in (counts_of, learnt):
            told = tell(PAIRS, trees)
            told.clear()
            self.assertEqual(len(tell(PAIRS, trees)), 3)
        taught(PAIRS, trees)
        self.assertEqual(trees, kept)
        self.assertEqual(grammar_text(PAIRS), text)


class Taught(unittest.TestCase):

    def test_written_out(self):
        one = (0, ((2, (0,)), (5, (1,))))
        other = (0, ((4, (0, (3, (1,)))), (6, (2,))))
        self.assertEqual(grammar_text(taught(SOME, [one, other])), "\n".join([
            "scale chance", "start S", "rule s1 S -> N V : 1 tag says", "rule n1 N -> a : 1/3 tag thing",
            "rule n2 N -> a : 1/3 under s1 n3 s1", "rule n3 N -> b N : 1/3", "rule v1 V -> a : 1/2",
            "rule v2 V -> b : 1/2 under s1"]))
        self.assertEqual(grammar_text(taught(SOME, [(1, ((6, (0,)),))])),
                         "scale chance\nstart S\nrule s2 S -> V : 1\nrule v2 V -> b : 1 under s2")

    def test_the_same_but_for_the_weights(self):
        for number, (grammar, net) in enumerate(samples()):
            trees = all_trees(grammar, net)
            for some in (trees[:1], trees[1:4], trees[:100]):
                if some:
                    with self.subTest(number=number):
                        self.check(grammar, net, some)

    def check(self, grammar, net, trees):
        made = taught(grammar, trees)
        told = learnt(grammar, trees)
        kept = [number for number, count in enumerate(counts_by_hand(grammar, trees)) if count]
        titles = [grammar.rules[number].title for number in kept]
        self.assertIs(type(made), Grammar)
        self.assertEqual((made.scale, made.start), ("chance", grammar.start))
        self.assertEqual([rule.title for rule in made.rules], titles)
        for number, rule in zip(kept, made.rules):
            old = grammar.rules[number]
            self.assertEqual((rule.head, rule.parts, rule.tag, rule.weight), (old.head, old.parts, old.tag, told[number]))
            under = None if old.under is None else tuple(title for title in old.under if title in titles)
            self.assertEqual(rule.under, under)
        for tree in trees:
            self.assertEqual(tree_fault(made, net, renumbered(tree, kept)), "")

    def test_a_rule_under_itself(self):
        tree = (0, ((1, (0,)), (3, (1, 2))))
        told = taught(TIED_TOP, [tree])
        self.assertEqual([(rule.title, rule.under) for rule in told.rules], [("s1", None), ("s2", ("s1",)), ("s4", ("s1", "s4"))])

    def test_the_order_and_the_scale_of_the_grammar(self):
        grammar = Grammar("chance", "B", [Rule("z", "A", ["a"], (1, 3)), Rule("y", "B", ["A"], (2, 1), "t", None),
                                          Rule("x", "B", ["b"], (1, 1)), Rule("w", "A", ["A", "A"], (1, 7))])
        told = taught(grammar, [(1, ((3, ((0, (0,)), (0, (1,)))),)), (2, (0,))])
        self.assertEqual([(rule.title, rule.weight, rule.tag) for rule in told.rules],
                         [("z", (2, 3), ""), ("y", (1, 2), "t"), ("x", (1, 2), ""), ("w", (1, 3), "")])
        self.assertEqual((told.scale, told.start), ("chance", "B"))


def renumbered(tree, kept):
    """A tree with the numbers that its rules have among those kept."""
    return (kept.index(tree[0]), tuple(renumbered(kid, kept) if isinstance(kid, tuple) else kid for kid in tree[1]))


class Refusals(unittest.TestCase):

    def refused(self, grammar, trees):
        kept = copy.deepcopy(trees)
        for tell in (counts_of, learnt, taught):
            with self.assertRaises(NoTree) as taken:
                tell(grammar, trees)
            self.assertIs(type(taken.exception), NoTree)
        self.assertEqual(trees, kept)

    def test_no_tree_in_the_list(self):
        self.refused(DOGS, [])
        self.refused(SOME, [])

    def test_bad_trees(self):
        bark, dogs = (2, (1,)), (1, (0,))
        bad = {
            "rule below nought": [(-1, (dogs, bark)), (-3, (dogs, bark)), (0, ((-2, (0,)), bark)), (0, (dogs, (-1, (1,))))],
            "rule beyond": [(3, (dogs, bark)), (0, ((3, (0,)), bark)), (10 ** 30, (dogs, bark)), (0, (dogs, (10 ** 30, (1,))))],
            "head": [dogs, bark, (0, (bark, dogs)), (0, (dogs, dogs)), (0, ((0, (dogs, bark)), bark))],
            "kids": [(0, (dogs,)), (0, (dogs, bark, bark)), (0, ()), (0, ((1, ()), bark)), (0, ((1, (0, 0)), bark)),
                     (0, (dogs, (2, (1, 1)))), (0, (dogs, (2, ())))],
            "a tree for a word": [(0, ((1, (dogs,)), bark)), (0, (dogs, (2, (bark,)))), (0, ((1, ((1, (0,)),)), bark))],
            "a number for a kind": [(0, (0, bark)), (0, (dogs, 1)), (0, (0, 1)), 0, 1, -1],
        }
        for name, trees in bad.items():
            for tree in trees:
                with self.subTest(name=name, tree=tree):
                    self.refused(DOGS, [tree])
                    self.refused(DOGS, [tree, BARK, BARK])
                    self.refused(DOGS, [BARK, BARK, tree])
                    self.refused(DOGS, [BARK, tree, BARK])
        self.assertEqual(counts_of(DOGS, [BARK, BARK]), [2, 2, 2])

    def test_ties(self):
        good = (0, ((2, (0,)), (7, (1,))))
        grammar = TIED
        self.assertEqual(grammar.rules[3].under, ("s1",))
        self.assertEqual(sum(counts_of(grammar, [good])), 3)
        self.assertEqual(sum(counts_of(grammar, [(0, ((3, (0,)), (7, (1,))))])), 3)
        # The rule n2 stands right beneath s1 alone, n3 right beneath s2 alone.
        self.refused(grammar, [(0, ((4, (0,)), (7, (1,))))])
        self.refused(grammar, [(1, ((7, (0,)), (3, (1,))))])
        self.refused(grammar, [(0, ((2, (0,)), (8, (1, (3, (2,))))))])
        self.refused(grammar, [good, (0, ((4, (0,)), (7, (1,))))])
        # At the top.
        self.refused(TIED_TOP, [(1, (0,))])
        self.refused(TIED_TOP, [(3, (0, 1))])
        self.assertEqual(counts_of(TIED_TOP, [(2, (0,))]), [0, 0, 1, 0])
        self.refused(TIED_TOP, [(2, (0,)), (1, (0,))])
        # Though all rules are named, none of them stands above the top.
        tied = grammar_of("s1 S -> a : 1 under s1 s2 s3", "s2 S -> b S : 1", "s3 S -> b : 1 under s1 s2 s3")
        for tree in ((0, (0,)), (2, (0,))):
            self.refused(tied, [tree])
            self.assertEqual(sum(counts_of(tied, [(1, (0, tree))])), 2)
        # Two above is not right above.
        self.refused(TIED_CHAINS, [(6, ((2, ((4, (0,)),)),))])

    def test_deep_faults(self):
        trees = all_trees(PAIRS, row("a b b a a"))
        for tree in trees:
            self.assertEqual(sum(counts_of(PAIRS, [tree])), 9)
            for bad in ((3, (0,)), (1, ()), (1, ((1, (0,)),)), 4, (0, ((1, (0,)),))):
                self.refused(PAIRS, [with_last(tree, bad)])

    def test_a_net_is_not_looked_at(self):
        # The edges' words and places are those of no net at all.
        net = Net(1, [(0, 1, "x", ONE)])
        self.assertNotEqual(tree_fault(DOGS, net, BARK), "")
        self.assertEqual(counts_of(DOGS, [(0, ((1, (1,)), (2, (0,))))]), [1, 1, 1])


def with_last(tree, thing):
    """A tree with a thing instead of its last rule of one word."""
    number, kids = tree
    if not isinstance(kids[-1], tuple):
        return thing
    return (number, kids[:-1] + (with_last(kids[-1], thing),))


if __name__ == "__main__":
    unittest.main()
