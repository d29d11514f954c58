"""Points [23] and [24]: what trees tell, and the first tree of each meaning; [1] as far as it touches them."""

import copy
import inspect
import unittest

from kbestwood import meanings
from kbestwood.grammars import Grammar, Rule
from kbestwood.meanings import Distinct, telling
from kbestwood.nets import Net
from kbestwood.teller import Teller
from kbestwood.woods import wood_of
from samples import (ALL_TIED, DOGS, EMPTY, LATTICE, ONE, PAIRS, RICHER, SAMPLES, all_trees, grammar_of, in_order, many_trees,
                     random_samples, row)

SAYS = grammar_of("s1 S -> N V : 1 tag says", "s2 S -> N V : 2", "n1 N -> dogs : 1 tag dog", "n2 N -> dogs : 2",
                  "n3 N -> the N : 1 tag dog", "v1 V -> bark : 1", "v2 V -> V bark : 1 tag more", "n4 N -> dogs : 3 tag hound")


def telling_by_hand(grammar, net, tree):
    """The telling of a tree, word by word as the document tells it."""
    items = ()
    for kid in tree[1]:
        items += telling_by_hand(grammar, net, kid) if isinstance(kid, tuple) else (net.edges[kid][2],)
    tag = grammar.rules[tree[0]].tag
    return items if tag == "" else ((tag, items),)


def tagged(grammar, net):
    """A grammar with tags at some of its rules."""
    tags = ["", "t", "", "u", "a", "t"]
    rules = [Rule(rule.title, rule.head, rule.parts, rule.weight, tags[number % len(tags)], rule.under)
             for number, rule in enumerate(grammar.rules)]
    return Grammar(grammar.scale, grammar.start, rules), net


def samples():
    """Samples with tags and without, that have no more than some hundred trees."""
    made = [sample for sample in SAMPLES + RICHER[:1] + RICHER[2:] + random_samples(60) if len(all_trees(*sample)) <= 300]
    return made + [tagged(*sample) for sample in made]


def distinct_by_hand(grammar, net, look):
    """The trees that Distinct is to tell, each with its place, and the number of trees that it may look at."""
    trees = in_order(grammar, net, all_trees(grammar, net))[:max(look, 0)]
    told, seen = [], []
    for place, tree in enumerate(trees, start=1):
        if telling_by_hand(grammar, net, tree) not in seen:
            seen.append(telling_by_hand(grammar, net, tree))
            told.append((place, tree))
    return told, len(trees)


class Interface(unittest.TestCase):

    def test_arguments(self):
        told = {"telling": ["grammar", "net", "tree"], "Distinct": ["wood", "look"]}
        for name, arguments in told.items():
            self.assertEqual(list(inspect.signature(getattr(meanings, name)).parameters), arguments)
        for name, arguments in {"more": ["self", "many"], "looked": ["self"]}.items():
            self.assertEqual(list(inspect.signature(getattr(Distinct, name)).parameters), arguments)


class Telling(unittest.TestCase):

    def told(self, words, tree):
        return telling(SAYS, row(words), tree)

    def test_written_out(self):
        bark = (5, (1,))
        self.assertEqual(telling(DOGS, row("dogs bark"), (0, ((1, (0,)), (2, (1,))))), ("dogs", "bark"))
        self.assertEqual(self.told("dogs bark", (1, ((3, (0,)), bark))), ("dogs", "bark"))
        self.assertEqual(self.told("dogs bark", (1, ((2, (0,)), bark))), (("dog", ("dogs",)), "bark"))
        self.assertEqual(self.told("dogs bark", (0, ((3, (0,)), bark))), (("says", ("dogs", "bark")),))
        self.assertEqual(self.told("dogs bark", (0, ((2, (0,)), bark))), (("says", (("dog", ("dogs",)), "bark")),))
        self.assertEqual(self.told("the dogs bark", (1, ((4, (0, (2, (1,)))), (5, (2,))))),
                         (("dog", ("the", ("dog", ("dogs",)))), "bark"))
        self.assertEqual(self.told("dogs bark bark", (0, ((3, (0,)), (6, ((5, (1,)), 2))))),
                         (("says", ("dogs", ("more", ("bark", "bark")))),))
        self.assertEqual(self.told("dogs", (2, (0,))), (("dog", ("dogs",)),))
        self.assertEqual(self.told("dogs", (3, (0,))), ("dogs",))

    def test_edges_alone(self):
        grammar = grammar_of("s1 S -> a b a c : 1", "s2 S -> a b a c : 1 tag a")
        self.assertEqual(telling(grammar, row("a b a c"), (0, (0, 1, 2, 3))), ("a", "b", "a", "c"))
        self.assertEqual(telling(grammar, row("a b a c"), (1, (0, 1, 2, 3))), (("a", ("a", "b", "a", "c")),))

    def test_against_the_document(self):
        for number, (grammar, net) in enumerate(samples()):
            with self.subTest(number=number):
                for tree in all_trees(grammar, net)[:40]:
                    self.assertEqual(telling(grammar, net, tree), telling_by_hand(grammar, net, tree))

    def test_kinds(self):
        def check(items):
            self.assertIs(type(items), tuple)
            for item in items:
                if type(item) is not str:
                    self.assertIs(type(item), tuple)
                    tag, beneath = item
                    self.assertIs(type(tag), str)
                    check(beneath)
        for grammar, net in samples()[-60:]:
            for tree in all_trees(grammar, net)[:5]:
                check(telling(grammar, net, tree))

    def test_like_and_unlike(self):
        net = Net(2, [(0, 1, "dogs", ONE), (1, 2, "bark", ONE), (0, 1, "dogs", (3, 1))])
        bark = (5, (1,))
        one = telling(SAYS, net, (1, ((3, (0,)), bark)))
        self.assertEqual(telling(SAYS, net, (1, ((3, (2,)), bark))), one)
        self.assertNotEqual(telling(SAYS, net, (0, ((3, (0,)), bark))), one)
        self.assertNotEqual(telling(SAYS, net, (1, ((2, (0,)), bark))), one)
        self.assertNotEqual(telling(SAYS, net, (1, ((2, (0,)), bark))), telling(SAYS, net, (1, ((7, (0,)), bark))))
        like = grammar_of("s1 S -> S S : 1", "s2 S -> S a : 1", "s3 S -> a : 1", "s4 S -> a a : 1")
        tellings = [telling(like, row("a a a"), tree) for tree in all_trees(like, row("a a a"))]
        self.assertGreater(len(tellings), 4)
        self.assertEqual(set(tellings), {("a", "a", "a")})

    def test_a_tag_is_no_word(self):
        # The tag a round the word b tells other than the words a and b, whatever stands beside them.
        grammar = grammar_of("s1 S -> A A : 1", "a1 A -> b : 1 tag a", "a2 A -> a b : 1", "a3 A -> b b : 1 tag a", "a4 A -> a : 1",
                             "a5 A -> A A : 1", "s2 S -> A : 1")
        net = row("b b")
        self.assertEqual(telling(grammar, net, (0, ((1, (0,)), (1, (1,))))), (("a", ("b",)), ("a", ("b",))))
        self.assertEqual(telling(grammar, net, (6, ((3, (0, 1)),))), (("a", ("b", "b")),))
        self.assertEqual(Distinct(wood_of(grammar, net), 9).more(9), [(6, ((3, (0, 1)),)), (0, ((1, (0,)), (1, (1,))))])

    def test_deep_trees(self):
        kinds = "SABCDEFG"
        rules = [f"{kind.lower()}1 {kind} -> {part} : 1 tag t{kind.lower()}" for kind, part in zip(kinds, kinds[1:])]
        grammar = grammar_of(*rules, "g1 G -> a S : 1 tag g", "g2 G -> a : 1 tag last")
        net = row(" ".join("a" * 12))
        wood = wood_of(grammar, net)
        tree = Teller(wood).more(1)[0]
        told = telling(grammar, net, tree)
        depth = 0
        while isinstance(told[-1], tuple):
            self.assertEqual(len(told), 1 if depth % 8 else 1 + (depth > 0))
            tag, told = told[-1]
            depth += 1
        self.assertEqual((depth, tag, told), (96, "last", ("a",)))
        self.assertEqual(Distinct(wood, 3).more(2), [tree])


class Meanings(unittest.TestCase):

    def test_all_at_once(self):
        for number, (grammar, net) in enumerate(samples()):
            wood = wood_of(grammar, net)
            many = len(all_trees(grammar, net))
            for look in (many + 1, many, many - 1, many // 2, 2, 1, 0, -1, 300):
                with self.subTest(number=number, look=look):
                    told, most = distinct_by_hand(grammar, net, look)
                    asked = Distinct(wood, look)
                    self.assertEqual(asked.looked(), 0)
                    self.assertEqual(asked.more(len(told)), [tree for place, tree in told])
                    self.assertEqual(asked.looked(), told[-1][0] if told else 0)
                    for again in (1, 0, 5, -1):
                        self.assertEqual(asked.more(again), [])
                        self.assertEqual(asked.looked(), most)
                    asked = Distinct(wood, look)
                    self.assertEqual(asked.more(len(told) + 1), [tree for place, tree in told])
                    self.assertEqual(asked.looked(), most)

    def test_in_pieces(self):
        for number, (grammar, net) in enumerate(samples()):
            wood = wood_of(grammar, net)
            for look in (300, len(all_trees(grammar, net)) - 1):
                told, most = distinct_by_hand(grammar, net, look)
                for pieces in ([1], [2, 0, 1], [-1, 3], [0, 2, -5, 1]):
                    with self.subTest(number=number, look=look, pieces=pieces):
                        self.ask_in_pieces(Distinct(wood, look), pieces, told, most)

    def ask_in_pieces(self, asked, pieces, told, most):
        """Asks for the trees told by hand until there are no more, and looks at each answer."""
        done, looked, fewer = 0, 0, False
        while not fewer:
            for many in pieces:
                piece = told[done:done + max(many, 0)]
                done += len(piece)
                self.assertEqual(asked.more(many), [tree for place, tree in piece])
                fewer = fewer or len(piece) < many
                looked = most if fewer else max([looked] + [place for place, tree in piece])
                self.assertEqual(asked.looked(), looked)

    def test_written_out(self):
        # The tagged rule stands in the fourth tree and in the last one.
        grammar = grammar_of("s1 S -> N : 1", "s2 S -> N : 2", "n1 N -> a : 3 tag t", "n2 N -> a : 1", "n3 N -> a : 2")
        wood = wood_of(grammar, row("a"))
        trees = Teller(wood).more(9)
        self.assertEqual([tree[0:1] + tree[1][0][0:1] for tree in trees], [(0, 3), (0, 4), (1, 3), (0, 2), (1, 4), (1, 2)])
        asked = Distinct(wood, 300)
        self.assertEqual((asked.looked(), asked.more(1), asked.looked()), (0, [trees[0]], 1))
        self.assertEqual((asked.more(1), asked.looked()), ([trees[3]], 4))
        self.assertEqual((asked.more(0), asked.more(-2), asked.looked()), ([], [], 4))
        self.assertEqual((asked.more(1), asked.looked()), ([], 6))
        self.assertEqual((asked.more(1), asked.more(0), asked.looked()), ([], [], 6))
        for look, told, looked in ((3, 1, 3), (4, 2, 4), (5, 2, 5), (6, 2, 6), (7, 2, 6), (1, 1, 1), (0, 0, 0), (-7, 0, 0)):
            asked = Distinct(wood, look)
            self.assertEqual(asked.more(3), [trees[0], trees[3]][:told])
            self.assertEqual(asked.looked(), looked)

    def test_the_first_of_a_meaning_is_told(self):
        net = Net(1, [(0, 1, "a", (5, 1)), (0, 1, "a", (3, 1)), (0, 1, "b", (4, 1)), (0, 1, "a", (3, 1))])
        grammar = grammar_of("s1 S -> a : 0", "s2 S -> b : 0")
        asked = Distinct(wood_of(grammar, net), 300)
        self.assertEqual(asked.more(300), [(0, (1,)), (1, (2,))])
        self.assertEqual(asked.looked(), 4)

    def test_no_tree(self):
        for grammar, net in ((DOGS, row("dogs")), (ALL_TIED, row("a")), (PAIRS, EMPTY)):
            for look in (0, -1, 5):
                asked = Distinct(wood_of(grammar, net), look)
                for many in (0, 1, -1, 300):
                    self.assertEqual(asked.more(many), [])
                    self.assertEqual(asked.looked(), 0)

    def test_lists_told_and_changed(self):
        grammar, net = tagged(PAIRS, LATTICE)
        told = [tree for place, tree in distinct_by_hand(grammar, net, 300)[0]]
        self.assertGreater(len(told), 5)
        wood = wood_of(grammar, net)
        kept = copy.deepcopy((wood.nodes, wood.ways, wood.top, net.edges))
        asked = Distinct(wood, 300)
        piece = asked.more(3)
        earlier = list(piece)
        self.assertEqual(asked.more(2), told[3:5])
        self.assertEqual(piece, earlier)
        piece.clear()
        self.assertEqual(asked.more(300), told[5:])
        self.assertEqual((wood.nodes, wood.ways, wood.top, net.edges), kept)

    def test_two_asked_in_turn(self):
        wood = wood_of(*tagged(PAIRS, LATTICE))
        told = [tree for place, tree in distinct_by_hand(wood.grammar, wood.net, 300)[0]]
        one, other, teller = Distinct(wood, 300), Distinct(wood, 300), Teller(wood)
        for at in range(0, len(told), 2):
            self.assertEqual(one.more(1) + one.more(1), told[at:at + 2])
            teller.more(3)
            self.assertEqual(other.more(2), told[at:at + 2])
            self.assertEqual(one.looked(), other.looked())

    def test_great_nets(self):
        # Without tags all trees tell the same words.
        grammar, net = many_trees(12, "cost", 2)
        asked = Distinct(wood_of(grammar, net), 300)
        self.assertEqual((asked.more(1), asked.looked()), (Teller(wood_of(grammar, net)).more(1), 1))
        self.assertEqual((asked.more(1), asked.looked()), ([], 300))
        wood = wood_of(*tagged(*many_trees(12, "chance")))
        told, seen = [], []
        for tree in Teller(wood).more(300):
            if telling_by_hand(wood.grammar, wood.net, tree) not in seen:
                seen.append(telling_by_hand(wood.grammar, wood.net, tree))
                told.append(tree)
        self.assertEqual(Distinct(wood, 300).more(300), told)
        self.assertGreater(len(told), 1)
        self.assertLess(len(told), 300)


if __name__ == "__main__":
    unittest.main()
