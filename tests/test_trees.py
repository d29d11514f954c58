"""Points [12] and [15] to [17]: trees, their rows, order, faults, weights and texts."""

import inspect
import itertools
import random
import unittest

from kbestwood import trees
from kbestwood.nets import Net
from kbestwood.trees import before, row_of, tree_fault, tree_text, weight_of, words_of
from samples import (CHAINS, DOGS, NOUGHT, ONE, PAIRS, SAMPLES, TIED, TIED_TOP, all_trees, grammar_of, order_key, parts_of,
                     random_samples, row, row_by_hand, weight_by_hand)

BARK = (0, ((1, (0,)), (2, (1,))))


class Interface(unittest.TestCase):

    def test_arguments(self):
        told = {"tree_fault": ["grammar", "net", "tree"], "weight_of": ["grammar", "net", "tree"], "row_of": ["tree"],
                "before": ["grammar", "net", "one", "other"], "tree_text": ["grammar", "net", "tree"],
                "words_of": ["net", "tree"]}
        for name, arguments in told.items():
            with self.subTest(name=name):
                self.assertEqual(list(inspect.signature(getattr(trees, name)).parameters), arguments)


def some_trees(most=40):
    """Some trees of each sample: (grammar, net, trees)."""
    made = [(grammar, net, all_trees(grammar, net)[:most]) for grammar, net in SAMPLES + random_samples(60)]
    return [sample for sample in made if sample[2]]


class Rows(unittest.TestCase):

    def test_written_out(self):
        self.assertEqual(row_of(BARK), [0, 1, 0, 2, 1])
        self.assertEqual(row_of((3, (5,))), [3, 5])
        self.assertEqual(row_of((1, (4, (0, ((2, (9,)), 7)), 6))), [1, 4, 0, 2, 9, 7, 6])

    def test_against_rows_by_hand(self):
        for grammar, net, made in some_trees():
            for tree in made:
                self.assertEqual(row_of(tree), row_by_hand(tree))
                self.assertIs(type(row_of(tree)), list)

    def test_the_row_is_the_askers_own(self):
        one = row_of(BARK)
        one.append(7)
        self.assertEqual(row_of(BARK), [0, 1, 0, 2, 1])

    def test_deep_trees(self):
        tree = (0, (0,))
        for depth in range(150):
            tree = (1, (tree, depth))
        self.assertEqual(row_of(tree), [1] * 150 + [0, 0] + list(range(150)))


class Weights(unittest.TestCase):

    def test_written_out(self):
        self.assertEqual(weight_of(DOGS, row("dogs bark"), BARK), (11, 6))
        net = Net(2, [(0, 1, "dogs", (1, 6)), (1, 2, "bark", (-3, 1))])
        self.assertEqual(weight_of(DOGS, net, BARK), (-1, 1))
        self.assertEqual(weight_of(DOGS, net, (1, (0,))), (2, 3))

    def test_chance(self):
        grammar = grammar_of("s1 S -> N N : 3/4", "n1 N -> dogs : 1/2", scale="chance")
        net = Net(2, [(0, 1, "dogs", (2, 3)), (1, 2, "dogs", (1, 5))])
        self.assertEqual(weight_of(grammar, net, (0, ((1, (0,)), (1, (1,))))), (1, 40))
        self.assertEqual(weight_of(grammar, net, (1, (1,))), (1, 10))

    def test_as_often_as_it_stands_there(self):
        tree = (0, ((0, ((1, (0,)), (1, (1,)))), (1, (2,))))
        self.assertEqual(weight_of(PAIRS, row("a a a"), tree), (2, 1))
        # No path goes by an edge twice, so an edge does not stand twice in a tree of a net; it is counted all the same.
        self.assertEqual(weight_of(PAIRS, Net(1, [(0, 1, "a", (1, 7))]), (0, ((1, (0,)), (1, (0,))))), (61, 42))

    def test_against_weights_by_hand(self):
        for grammar, net, made in some_trees():
            for tree in made:
                for part in parts_of(tree):
                    weight = weight_by_hand(grammar, net, part)
                    self.assertEqual(weight_of(grammar, net, part), (weight.numerator, weight.denominator))


class Before(unittest.TestCase):

    def test_unlike_weights(self):
        for scale, better in (("cost", (1, (0,))), ("chance", (0, (0,)))):
            grammar = grammar_of("s1 S -> a : 2", "s2 S -> a : 1", scale=scale)
            other = (1 - better[0], (0,))
            self.assertIs(before(grammar, row("a", scale), better, other), True)
            self.assertIs(before(grammar, row("a", scale), other, better), False)

    def test_edges_count_too(self):
        net = Net(1, [(0, 1, "a", (2, 1)), (0, 1, "a", (1, 1))])
        for scale, better in (("cost", (0, (1,))), ("chance", (0, (0,)))):
            grammar = grammar_of("s1 S -> a : 1", scale=scale)
            other = (0, (1 - better[1][0],))
            self.assertIs(before(grammar, net, better, other), True)
            self.assertIs(before(grammar, net, other, better), False)

    def test_same_weight_by_rows(self):
        grammar = grammar_of(*[f"r{number} S -> a : 1" for number in range(12)])
        net = Net(1, [(0, 1, "a", NOUGHT)] * 12)
        for one, other in itertools.product([(rule, (edge,)) for rule in (0, 2, 10, 11) for edge in (0, 3, 10)], repeat=2):
            self.assertIs(before(grammar, net, one, other), one < other)

    def test_rows_and_not_trees_are_compared(self):
        # Python could not compare these two as tuples: an edge stands in the one where a tree stands in the other.
        grammar = grammar_of("s1 S -> S S : 0", "s2 S -> a : 0", "s3 S -> a S : 0", "s4 S -> S a : 0")
        net = row("a a a")
        made = all_trees(grammar, net)
        for one, other in itertools.product(made, repeat=2):
            self.assertIs(before(grammar, net, one, other), row_by_hand(one) < row_by_hand(other))

    def test_one_row_the_beginning_of_another(self):
        # No two right trees are so, since a rule tells how many kids it has; the order of rows is told all the same.
        grammar = grammar_of("s1 S -> a a : 1", "s2 S -> a : 1")
        net = row("a a")
        self.assertIs(before(grammar, net, (0, (0,)), (0, (0, 1))), True)
        self.assertIs(before(grammar, net, (0, (0, 1)), (0, (0,))), False)

    def test_never_ahead_of_itself(self):
        for grammar, net, made in some_trees(10):
            for tree in made:
                self.assertIs(before(grammar, net, tree, tree), False)

    def test_against_the_order_by_hand(self):
        for grammar, net, made in some_trees(15):
            for one, other in itertools.product(made, repeat=2):
                ahead = order_key(grammar, net, one) < order_key(grammar, net, other)
                self.assertIs(before(grammar, net, one, other), ahead)

    def test_parts_of_trees(self):
        net = Net(2, [(0, 1, "a", NOUGHT), (0, 1, "a", (-1, 1)), (1, 2, "b", ONE)])
        self.assertIs(before(PAIRS, net, (1, (1,)), (1, (0,))), True)
        self.assertIs(before(PAIRS, net, (1, (0,)), (1, (1,))), False)


class Texts(unittest.TestCase):

    def test_the_documents_example(self):
        self.assertEqual(tree_text(DOGS, row("dogs bark"), BARK), "s1(n1(dogs), v1(bark))")
        self.assertEqual(words_of(row("dogs bark"), BARK), ["dogs", "bark"])

    def test_parts(self):
        net = row("dogs bark")
        self.assertEqual(tree_text(DOGS, net, BARK[1][0]), "n1(dogs)")
        self.assertEqual(tree_text(DOGS, net, BARK[1][1]), "v1(bark)")
        self.assertEqual(words_of(net, BARK[1][1]), ["bark"])

    def test_mixed_kids(self):
        grammar = grammar_of("s1 S -> x S y S : 1", "s2 S -> z : 1", "s3 S -> x y : 1")
        net = row("x z y x y")
        tree = (0, (0, (1, (1,)), 2, (2, (3, 4))))
        self.assertEqual(tree_text(grammar, net, tree), "s1(x, s2(z), y, s3(x, y))")
        self.assertEqual(words_of(net, tree), ["x", "z", "y", "x", "y"])

    def test_deep_trees(self):
        grammar = grammar_of("s1 S -> S a : 1", "s2 S -> b : 1")
        tree = (1, (0,))
        for depth in range(150):
            tree = (0, (tree, 1))
        net = row("b a")
        self.assertEqual(tree_text(grammar, net, tree), "s1(" * 150 + "s2(b)" + ", a)" * 150)
        self.assertEqual(words_of(net, tree), ["b"] + ["a"] * 150)
        self.assertEqual(weight_of(grammar, net, tree), (151, 1))
        self.assertIs(before(grammar, net, tree, tree), False)
        self.assertEqual(tree_fault(grammar, net, tree), "place")

    def test_against_texts_by_hand(self):
        for grammar, net, made in some_trees():
            for tree in made:
                for part in parts_of(tree):
                    self.assertEqual(tree_text(grammar, net, part), text_by_hand(grammar, net, part))
                    words = [net.edges[number][2] for number in edges_by_hand(part)]
                    self.assertEqual(words_of(net, part), words)


def text_by_hand(grammar, net, tree):
    """A tree as it is written."""
    if not isinstance(tree, tuple):
        return net.edges[tree][2]
    kids = ", ".join(text_by_hand(grammar, net, kid) for kid in tree[1])
    return f"{grammar.rules[tree[0]].title}({kids})"


def edges_by_hand(tree):
    """The numbers of a tree's edges."""
    return [edge for kid in tree[1] for edge in (edges_by_hand(kid) if isinstance(kid, tuple) else [kid])]


def faults_by_hand(grammar, net, thing, part, above):
    """All faults in the order of the row, and the edges gone by; the kids of a faulty tree are not looked at."""
    if part[0].islower() or part[0].isdigit():
        if isinstance(thing, tuple) or thing not in range(len(net.edges)) or net.edges[thing][2] != part:
            return ["edge"], []
        return [thing], [thing]
    if not isinstance(thing, tuple) or thing[0] not in range(len(grammar.rules)):
        return ["rule"], []
    rule = grammar.rules[thing[0]]
    if rule.head != part:
        return ["head"], []
    if rule.under is not None and (above == -1 or grammar.rules[above].title not in rule.under):
        return ["tied"], []
    if len(thing[1]) != len(rule.parts):
        return ["kids"], []
    events, edges = [], []
    for kid, kid_part in zip(thing[1], rule.parts):
        more, gone = faults_by_hand(grammar, net, kid, kid_part, thing[0])
        events, edges = events + more, edges + gone
    return events, edges


def fault_by_hand(grammar, net, tree):
    """The first fault of a tree: words among the events are faults, numbers are edges, whose places are looked at."""
    place = 0
    for event in faults_by_hand(grammar, net, tree, grammar.start, -1)[0]:
        if isinstance(event, str):
            return event
        if net.edges[event][0] != place:
            return "place"
        place = net.edges[event][1]
    return "" if place == net.places else "end"


class Faults(unittest.TestCase):

    def told(self, word, grammar, net, *made):
        for tree in made:
            with self.subTest(tree=tree):
                self.assertEqual(tree_fault(grammar, net, tree), word)

    def test_none(self):
        self.told("", DOGS, row("dogs bark"), BARK)
        for grammar, net, made in some_trees():
            for tree in made:
                self.assertEqual(tree_fault(grammar, net, tree), "")

    def test_rule(self):
        net = row("dogs bark")
        self.told("rule", DOGS, net, 0, 1, 7, -1, (3, ()), (-1, ((1, (0,)), (2, (1,)))), (99, ((1, (0,)), (2, (1,)))))
        self.told("rule", DOGS, net, (0, (0, (2, (1,)))), (0, ((1, (0,)), 1)), (0, ((1, (0,)), (3, (1,)))),
                  (0, ((-1, (0,)), (2, (1,)))), (0, ((-3, (0,)), (2, (1,)))))

    def test_head(self):
        net = row("dogs bark")
        self.told("head", DOGS, net, (1, (0,)), (2, (1,)), (0, ((2, (1,)), (1, (0,)))), (0, ((1, (0,)), (1, (0,)))),
                  (0, (BARK, (2, (1,)))))

    def test_tied(self):
        net = row("a b")
        self.told("", TIED, net, (0, ((3, (0,)), (7, (1,)))), (1, ((6, (0,)), (5, (1,)))))
        self.told("tied", TIED, net, (0, ((4, (0,)), (7, (1,)))), (1, ((6, (0,)), (3, (0,)))))
        # The rule above its own rule's above does not count.
        self.told("tied", TIED, row("a a b"), (0, ((2, (0,)), (8, (1, (5, (2,)))))))
        self.told("tied", TIED_TOP, row("a"), (1, (0,)), (3, (0, 0)))
        self.told("", TIED_TOP, row("a"), (2, (0,)))

    def test_kids(self):
        net = row("dogs bark")
        self.told("kids", DOGS, net, (0, ()), (0, ((1, (0,)),)), (0, BARK[1] + (BARK[1][1],)), (0, ((1, ()), (2, (1,)))),
                  (0, ((1, (0, 1)), (2, (1,)))), (0, ((1, (0,)), (2, ()))))

    def test_edge(self):
        net = row("dogs bark")
        self.told("edge", DOGS, net, (0, ((1, (1,)), (2, (1,)))), (0, ((1, (0,)), (2, (0,)))), (0, ((1, (2,)), (2, (1,)))),
                  (0, ((1, (-1,)), (2, (1,)))), (0, ((1, (-2,)), (2, (1,)))), (0, ((1, (0,)), (2, (-1,)))),
                  (0, ((1, ((1, (0,)),)), (2, (1,)))), (0, ((1, (BARK,)), (2, (1,)))), (0, ((1, (0,)), (2, (99,)))))

    def test_place(self):
        net = Net(3, [(0, 1, "a", ONE), (1, 2, "a", ONE), (2, 3, "a", ONE), (0, 2, "a", ONE)])
        self.told("place", PAIRS, net, (1, (1,)), (1, (2,)), (0, ((1, (0,)), (1, (0,)))), (0, ((1, (0,)), (1, (2,)))),
                  (0, ((1, (3,)), (1, (1,)))), (0, ((1, (1,)), (1, (2,)))))
        self.told("", PAIRS, net, (0, ((1, (3,)), (1, (2,)))))

    def test_end(self):
        net = Net(3, [(0, 1, "a", ONE), (1, 2, "a", ONE), (2, 3, "a", ONE), (0, 2, "a", ONE)])
        self.told("end", PAIRS, net, (1, (0,)), (1, (3,)), (0, ((1, (0,)), (1, (1,)))))
        self.told("end", DOGS, Net(3, [(0, 1, "dogs", ONE), (1, 2, "bark", ONE)]), BARK)

    def test_two_at_once(self):
        net = row("dogs bark")
        # The earlier one in the row is told, and at one tree the first of rule, head, tied, kids.
        self.told("kids", DOGS, net, (0, ((1, ()), 7)), (0, ((1, ()), (1, ()))), (0, ((1, ()), (2, (7,)))))
        self.told("edge", DOGS, net, (0, ((1, (7,)), 7)), (0, ((1, (1,)), (9, ()))))
        self.told("rule", DOGS, net, (0, (7, (2, ()))), (9, ()), (0, ((9, ()), (2, ()))))
        self.told("head", DOGS, net, (1, ()), (0, ((2, ()), 7)))
        self.told("head", TIED, row("a"), (3, (0,)), (3, ()))
        self.told("head", TIED, row("a b"), (0, ((6, (0,)), (3, (0,)))))
        self.told("tied", TIED, row("a b"), (0, ((4, ()), (7, (1,)))), (0, ((4, (7,)), 3)))
        self.told("tied", TIED_TOP, row("a"), (1, ()), (1, (9,)), (1, (0, 0)))
        self.told("place", DOGS, Net(2, [(1, 2, "dogs", ONE), (0, 1, "bark", ONE)]), BARK, (0, ((1, (0,)), (2, (9,)))))
        self.told("edge", DOGS, Net(2, [(1, 2, "dogs", ONE), (0, 1, "bark", ONE)]), (0, ((1, (1,)), (2, (0,)))))
        self.told("place", DOGS, Net(3, [(0, 1, "dogs", ONE), (2, 3, "bark", ONE)]), BARK)

    def test_an_edge_of_another_word_and_place(self):
        net = Net(2, [(0, 1, "dogs", ONE), (0, 1, "bark", ONE), (1, 2, "cats", ONE)])
        self.told("place", DOGS, net, (0, ((1, (0,)), (2, (1,)))))
        self.told("edge", DOGS, net, (0, ((1, (0,)), (2, (2,)))), (0, ((1, (2,)), (2, (2,)))))

    def test_chains(self):
        self.told("", CHAINS, row("a"), (0, ((2, ((4, ((5, (0,)),)),)),)), (1, ((7, (0,)),)))
        self.told("head", CHAINS, row("a"), (0, ((4, ((5, (0,)),)),)))

    def test_against_faults_by_hand(self):
        lot = random.Random(11)
        met = {}
        for grammar, net, made in some_trees(6):
            for tree in made:
                for turn in range(40):
                    other = spoilt(lot, grammar, net, tree)
                    other = spoilt(lot, grammar, net, other) if lot.random() < 0.5 else other
                    fault = fault_by_hand(grammar, net, other)
                    met[fault] = met.get(fault, 0) + 1
                    self.assertEqual(tree_fault(grammar, net, other), fault)
        self.assertEqual(set(met), {"rule", "head", "tied", "kids", "edge", "place", "end", ""})
        self.assertGreater(min(met.values()), 10)


def spoilt(lot, grammar, net, tree):
    """A tree with something in it changed by lot."""
    if not isinstance(tree, tuple):
        return lot.choice([lot.randint(-2, len(net.edges) + 1), (lot.randrange(len(grammar.rules)), (tree,))])
    number, kids = tree
    turn = lot.randrange(5 if kids else 2)
    if turn == 0:
        return (lot.randint(-2, len(grammar.rules) + 1), kids)
    if turn == 1:
        return lot.choice([(number, kids[:-1]), (number, kids + kids[-1:]), (lot.randrange(len(grammar.rules)), kids), 0])
    at = lot.randrange(len(kids))
    return (number, kids[:at] + (spoilt(lot, grammar, net, kids[at]),) + kids[at + 1:])


if __name__ == "__main__":
    unittest.main()
