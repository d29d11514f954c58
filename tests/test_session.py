"""Points [27] to [29]: sessions; [1] and [2] as far as they touch them."""

import fractions
import inspect
import random
import unittest

from kbestwood import deeds, session
from kbestwood.errors import NoKind, NoLine, NoNet, NoScale, NoTitle, NoWeight, Ring, Twice
from kbestwood.nets import Net
from kbestwood.reader import grammar_text, read_grammar
from kbestwood.session import answers
from samples import (CHAINS, DOGS, LONG, PAIRS, PAIRS_OF_CHANCE, TIED, TIED_TOP, all_trees, grammar_of, in_order, numbers_in,
                     weight_by_hand)

GRAMMAR = ["scale cost", "start S", "rule s1 S -> N V : 1 tag says", "rule n1 N -> dogs : 1/2", "rule n2 N -> dogs : 1/3 under s1",
           "rule v1 V -> bark : -1/3", "rule s2 S -> dogs bark : 7", "rule s3 S -> woof : -3/4 tag woof"]
CHANCE = ["scale chance", "start S", "rule s1 S -> a : 1/2", "rule s2 S -> S S : 1/3", "rule s3 S -> b : 2"]
FIRST = ["1 s1(n2(dogs), v1(bark))", "7/6 s1(n1(dogs), v1(bark))", "7 s2(dogs, bark)"]


def told(*lines, grammar=GRAMMAR):
    """The answers to a session of a grammar's lines and others behind them."""
    return answers("\n".join(grammar + list(lines)))


def text_by_hand(grammar, net, tree):
    """A tree as it is written."""
    kids = [text_by_hand(grammar, net, kid) if isinstance(kid, tuple) else net.edges[kid][2] for kid in tree[1]]
    return f"{grammar.rules[tree[0]].title}({', '.join(kids)})"


def telling_by_hand(grammar, net, tree):
    """What a tree tells, as a text."""
    items = " ".join([telling_by_hand(grammar, net, kid) if isinstance(kid, tuple) else net.edges[kid][2] for kid in tree[1]])
    tag = grammar.rules[tree[0]].tag
    return items if tag == "" else f"[{tag} {items}]"


class ByHand:
    """Answers deeds with all trees made one by one."""

    def __init__(self, grammar):
        self.grammar = grammar
        self.places, self.edges = 0, []
        self.last, self.done = None, 0

    def lines(self, net, trees):
        return [f"{str(weight_by_hand(self.grammar, net, tree))} {text_by_hand(self.grammar, net, tree)}" for tree in trees]

    def answer(self, deed):
        word, *rest = deed.split(" ")
        if word == "words":
            nothing = (0, 1) if self.grammar.scale == "cost" else (1, 1)
            self.places, self.edges = len(rest), [(at, at + 1, one, nothing) for at, one in enumerate(rest)]
        elif word == "net":
            self.places, self.edges = int(rest[0]), []
        elif word == "edge":
            weight = fractions.Fraction(rest[3])
            self.edges = self.edges + [(int(rest[0]), int(rest[1]), rest[2], (weight.numerator, weight.denominator))]
        elif word == "more":
            net, trees = self.last
            self.done += int(rest[0])
            return self.lines(net, trees[self.done - int(rest[0]):self.done])
        else:
            net = Net(self.places, self.edges)
            return self.ask(word, rest, net, in_order(self.grammar, net, all_trees(self.grammar, net)))

    def ask(self, word, rest, net, trees):
        if word == "best":
            self.last, self.done = (net, trees), int(rest[0])
            return self.lines(net, trees[:self.done])
        if word == "distinct":
            seen = {}
            for tree in trees[:int(rest[1])]:
                seen.setdefault(telling_by_hand(self.grammar, net, tree), tree)
            return self.lines(net, list(seen.values())[:int(rest[0])])
        if word == "total":
            return [str(len(trees)), str(sum([weight_by_hand(self.grammar, net, tree) for tree in trees], fractions.Fraction(0)))]
        some = [number for tree in trees[:int(rest[0])] for number in numbers_in(tree)[0]]
        if not some:
            return ["nothing"]
        heads = [self.grammar.rules[number].head for number in some]
        return [f"{rule.title} {str(fractions.Fraction(some.count(number), max(heads.count(rule.head), 1)))}"
                for number, rule in enumerate(self.grammar.rules)]


class Interface(unittest.TestCase):

    def test_arguments(self):
        self.assertEqual(list(inspect.signature(session.answers).parameters), ["text"])
        self.assertTrue(inspect.ismodule(deeds))


class Deeds(unittest.TestCase):

    def test_best(self):
        for many in range(6):
            self.assertEqual(told("words dogs bark", f"best {many}"), [FIRST[:many]])
        self.assertEqual(told("words woof", "best 9"), [["-3/4 s3(woof)"]])

    def test_more(self):
        self.assertEqual(told("words dogs bark", "best 1", "more 1", "more 1", "more 1"), [FIRST[:1], FIRST[1:2], FIRST[2:], []])
        self.assertEqual(told("words dogs bark", "best 0", "more 2", "more 0", "more 5"), [[], FIRST[:2], [], FIRST[2:]])
        self.assertEqual(told("words dogs bark", "best 2", "best 1", "more 1"), [FIRST[:2], FIRST[:1], FIRST[1:2]])

    def test_more_behind_a_change_of_the_net(self):
        for change in (["words woof"], ["net 3"], ["edge 0 2 woof -9"], ["words woof", "edge 0 1 woof 5"]):
            self.assertEqual(told("words dogs bark", "best 1", *change, "more 5"), [FIRST[:1], FIRST[1:]])
        self.assertEqual(told("words dogs bark", "best 1", "words woof", "best 1", "more 1", "words dogs bark", "more 1"),
                         [FIRST[:1], ["-3/4 s3(woof)"], [], []])

    def test_more_behind_other_deeds(self):
        got = told("words dogs bark", "best 1", "distinct 2 9", "more 1", "learn 2", "total", "more 1")
        self.assertEqual([got[0], got[2], got[5]], [FIRST[:1], FIRST[1:2], FIRST[2:]])

    def test_distinct(self):
        # The first two trees tell the same.
        for many, look, wanted in ((9, 9, [0, 2]), (1, 9, [0]), (2, 2, [0]), (2, 3, [0, 2]), (0, 9, []), (9, 0, []), (1, 1, [0])):
            self.assertEqual(told("words dogs bark", f"distinct {many} {look}"), [[FIRST[at] for at in wanted]])
        self.assertEqual(told("words dogs bark", "distinct 1 9", "distinct 1 9"), [FIRST[:1], FIRST[:1]])

    def test_total(self):
        self.assertEqual(told("words dogs bark", "total"), [["3", "55/6"]])
        self.assertEqual(told("words woof", "total"), [["1", "-3/4"]])
        self.assertEqual(told("words b", "total", grammar=CHANCE), [["1", "2"]])
        self.assertEqual(told("words a b a", "total", grammar=CHANCE), [["2", "1/9"]])

    def test_learn(self):
        titles = ["s1", "n1", "n2", "v1", "s2", "s3"]
        for many, weights in ((1, "1 0 1 1 0 0"), (2, "1 1/2 1/2 1 0 0"), (3, "2/3 1/2 1/2 1 1/3 0"), (999, "2/3 1/2 1/2 1 1/3 0")):
            self.assertEqual(told("words dogs bark", f"learn {many}"),
                             [[f"{title} {weight}" for title, weight in zip(titles, weights.split(" "))]])
        self.assertEqual(told("words dogs bark", "learn 0"), [["nothing"]])

    def test_net_and_edge(self):
        self.assertEqual(told("net 2", "edge 0 1 dogs 1/2", "edge 1 2 bark 6/8", "best 1"), [["9/4 s1(n2(dogs), v1(bark))"]])
        self.assertEqual(told("net 1", "edge 0 1 woof 0/5", "edge 0 1 woof -1/4", "best 9"),
                         [["-1 s3(woof)", "-3/4 s3(woof)"]])
        self.assertEqual(told("net 3", "net 1", "edge 0 1 woof 0", "total"), [["1", "-3/4"]])
        self.assertEqual(told("net 1", "edge 0 1 woof 0", "net 1", "total"), [["0", "0"]])

    def test_edge_behind_words(self):
        self.assertEqual(told("words dogs bark", "edge 0 2 woof 9", "best 9"),
                         [FIRST + ["33/4 s3(woof)"]])
        self.assertEqual(told("words dogs bark", "edge 0 2 woof 9", "words dogs bark", "best 9"), [FIRST])
        got = told("words a", "edge 0 1 a 1/3", "edge 0 1 b 1/5", "best 9", "total", grammar=CHANCE)
        self.assertEqual(got, [["1/2 s1(a)", "2/5 s3(b)", "1/6 s1(a)"], ["3", "16/15"]])

    def test_a_net_without_a_tree(self):
        for net in (["words dogs"], ["net 2"], ["words bark dogs"], ["net 3", "edge 0 2 woof 1"]):
            self.assertEqual(told(*net, "best 3", "more 3", "distinct 3 3", "total", "learn 3", "learn 0", "best 0"),
                             [[], [], [], ["0", "0"], ["nothing"], ["nothing"], []])

    def test_deeds_without_answers(self):
        self.assertEqual(told(), [])
        self.assertEqual(told("words dogs bark", "net 2", "edge 0 1 dogs 1", "words woof"), [])

    def test_all_together(self):
        self.assertEqual(told("words dogs bark", "best 1", "net 2", "edge 0 2 woof 1", "more 1", "total", "best 2", "edge 0 1 dogs 1",
                              "edge 1 2 bark 1", "distinct 2 300", "learn 1", "more 1"),
                         [FIRST[:1], FIRST[1:2], ["1", "1/4"], ["1/4 s3(woof)"], ["1/4 s3(woof)", "3 s1(n2(dogs), v1(bark))"],
                          ["s1 0", "n1 0", "n2 0", "v1 0", "s2 0", "s3 1"], []])

    def test_numbers_of_three_figures(self):
        self.assertEqual(told("net 100", "edge 0 100 woof 1", "best 100", "more 999", "distinct 100 999", "learn 300"),
                         [["1/4 s3(woof)"], [], ["1/4 s3(woof)"], ["s1 0", "n1 0", "n2 0", "v1 0", "s2 0", "s3 1"]])
        self.assertEqual(told("net 999", "edge 0 998 dogs 0", "edge 998 999 bark 0", "best 1"), [FIRST[:1]])

    def test_great_nets(self):
        lines = ["scale cost", "start S", "rule s1 S -> S S : 1", "rule s2 S -> S S : 1", "rule s3 S -> S S : 1", "rule s4 S -> a : 1"]
        count = 58786 * 3 ** 11
        got = told("words" + " a" * 12, "total", "best 300", "more 2", "learn 10", grammar=lines)
        self.assertEqual(got[0], [str(count), str(23 * count)])
        self.assertGreater(count, 10 ** 10)
        self.assertEqual([len(got[1]), len(got[2]), len(set(got[1] + got[2]))], [300, 2, 302])
        self.assertEqual([text.split(" ")[0] for text in got[1]], ["23"] * 300)
        self.assertEqual(len(got[3]), 4)

    def test_kinds(self):
        got = told("words dogs bark", "best 2", "total", "learn 1", "words dogs", "best 1")
        self.assertIs(type(got), list)
        for answer in got:
            self.assertIs(type(answer), list)
            for text in answer:
                self.assertIs(type(text), str)

    def test_answers_are_the_askers_own(self):
        lines = ["words dogs", "best 1", "learn 1", "words dogs bark", "best 1", "best 1"]
        got = told(*lines)
        got[0].append("x")
        got[1].append("x")
        got[2].clear()
        self.assertEqual(got[3], FIRST[:1])
        self.assertEqual(told(*lines), [[], ["nothing"], FIRST[:1], FIRST[:1]])


class Lines(unittest.TestCase):

    def test_where_the_grammar_stands(self):
        lines = ["words dogs bark", "best 2", "total"]
        wanted = [FIRST[:2], ["3", "55/6"]]
        self.assertEqual(answers("\n".join(GRAMMAR + lines)), wanted)
        self.assertEqual(answers("\n".join(lines + GRAMMAR)), wanted)
        self.assertEqual(answers("\n".join(GRAMMAR[:1] + lines[:1] + GRAMMAR[1:3] + lines[1:2] + GRAMMAR[3:] + lines[2:])), wanted)
        self.assertEqual(answers("\n".join(lines[:2] + GRAMMAR + lines[2:])), wanted)

    def test_blank_and_empty_lines(self):
        lines = GRAMMAR + ["words dogs bark", "best 2", "total"]
        wanted = [FIRST[:2], ["3", "55/6"]]
        for gap in ("\n", "\n\n", "\n   \n", "\n \n\n", "\n\n\n    \n"):
            self.assertEqual(answers(gap.join(lines)), wanted)
            self.assertEqual(answers(gap + gap.join(lines) + gap), wanted)

    def test_names_that_are_words_of_deeds(self):
        lines = ["scale cost", "start Best", "rule rule Best -> scale start : 1 tag tag under under",
                 "rule under Best -> Best Best : 2 tag best", "rule best Best -> words more : 1/2"]
        self.assertEqual(told("words scale start words more", "best 1", "words words more", "best 3", "words words", "best 3",
                              grammar=lines),
                         [["7/2 under(rule(scale, start), best(words, more))"], ["1/2 best(words, more)"], []])

    def test_against_all_trees(self):
        lot = random.Random(11)
        tagged = grammar_of("s1 S -> S S : 1 tag t", "s2 S -> S S : 1", "s3 S -> a : 1/2", "s4 S -> a : 1 tag u", "s5 S -> b : -1",
                            "s6 S -> b b : -1 under s2 s1")
        for grammar, signs in ((PAIRS, "ab"), (PAIRS_OF_CHANCE, "ab"), (LONG, "xy"), (TIED, "ab"), (TIED_TOP, "a"), (CHAINS, "a"),
                               (tagged, "ab")):
            for k in range(12):
                lines = self.some_deeds(lot, signs)
                by_hand = ByHand(grammar)
                wanted = [answer for answer in [by_hand.answer(line) for line in lines] if answer is not None]
                with self.subTest(lines=lines):
                    self.assertEqual(told(*lines, grammar=grammar_text(grammar).split("\n")), wanted)

    def some_deeds(self, lot, signs):
        """Deeds put together by lot, none of which is refused."""
        places = lot.randint(1, 3)
        lines = ["words " + " ".join(lot.choice(signs) for k in range(places)), f"best {lot.randint(0, 3)}"]
        for k in range(lot.randint(3, 9)):
            word = lot.choice(["words", "net", "edge", "edge", "best", "more", "more", "distinct", "total", "learn"])
            if word == "words":
                places = lot.randint(1, 3)
                lines.append("words " + " ".join(lot.choice(signs) for k in range(places)))
            elif word == "net":
                places = lot.randint(1, 2)
                lines.append(f"net {places}")
                lines.extend(f"edge {at} {at + 1} {lot.choice(signs)} {lot.randint(1, 3)}/{lot.randint(1, 3)}" for at in range(places))
            elif word == "edge":
                begin = lot.randrange(places)
                weight = f"{lot.randint(1, 3)}/{lot.randint(1, 3)}"
                lines.append(f"edge {begin} {lot.randint(begin + 1, places)} {lot.choice(signs)} {weight}")
            elif word == "distinct":
                lines.append(f"distinct {lot.randint(0, 4)} {lot.randint(0, 20)}")
            else:
                lines.append(word if word == "total" else f"{word} {lot.randint(0, 6)}")
        return lines


class Refusals(unittest.TestCase):

    def refused(self, error, *lines, grammar=GRAMMAR):
        with self.assertRaises(error) as taken:
            told(*lines, grammar=grammar)
        self.assertIs(type(taken.exception), error)

    def test_forms(self):
        good = ["words a", "words a b", "net 2", "edge 0 1 a 1/2", "best 3", "more 3", "distinct 3 4", "total", "learn 3"]
        self.assertEqual(len(told("words woof", "net 2", "edge 0 1 woof 1/2", "best 3", "more 3", "distinct 3 4", "total", "learn 3")), 5)
        bad = ["words", "net", "edge", "best", "more", "distinct", "learn", "edge 0", "edge 0 1", "edge 0 1 a", "distinct 3",
               "net 2 2", "edge 0 1 a 1 1", "best 3 3", "more 3 3", "distinct 3 4 5", "total 1", "total total", "learn 3 3", "best a",
               "words a A", "words A", "words a-b", "words a, b", "words abcdefghijklm", "words -", "words ->", "words a:",
               "edge 0 1 A 1", "edge 0 1 a- 1", "edge 0 1 a x", "edge 0 1 a -", "edge 0 1 a 1/0", "edge 0 1 a 01", "edge 0 1 a -0",
               "edge 0 1 a 1/", "edge 0 1 a /2", "edge 0 1 a 1.5", "edge 0 1 a +1", "edge a 1 a 1", "edge 0 b a 1", "edge 0 1 1/2 a",
               "edge 0 1 a " + "1" * 41, "edge 0 1 a 1/" + "1" * 41, "edge 0 1 abcdefghijklm 1"]
        for line in good:
            bad.extend([" " + line, line + " ", line.replace(" ", "  ", 1) if " " in line else line + "  ", line + "  x",
                        line.upper(), line[0].upper() + line[1:], "\t" + line, line.replace(" ", "\t", 1) if " " in line else "total\t"])
        bad.extend(["tota", "totals", "bests 3", "word a", "do", "0", "1 best", "#", "# total", "scales cost", "starts S", "rules", "-",
                    "rulex s9 S -> a : 1", "total:", "x", "best3", "nothing", "learnt 3", "distinct3 4"])
        for line in bad:
            with self.subTest(line=line):
                self.refused(NoLine, line)
                self.refused(NoLine, "words woof", "best 1", line)
                with self.assertRaises(NoLine):
                    answers("\n".join([line] + GRAMMAR))

    def test_numbers(self):
        forms = ["net {}", "edge {} 1 a 1", "edge 0 {} a 1", "best {}", "more {}", "distinct {} 1", "distinct 1 {}", "learn {}"]
        for form in forms:
            for number in ("01", "00", "000", "1000", "0001", "-1", "-0", "+1", "1.0", "1/1", "one", "1a", "a1", "x", "1_0", "0x1",
                           "12345678901234567890"):
                with self.subTest(line=form.replace("{}", number)):
                    self.refused(NoLine, "words woof", "best 1", form.replace("{}", number))
        for number in ("0", "1", "9", "10", "99", "100", "999"):
            for form in ("best {}", "more {}", "distinct {} 1", "distinct 1 {}", "learn {}"):
                told("words woof", "best 1", form.replace("{}", number))

    def test_grammars_lines(self):
        for line in ("rule", "rule s9", "rule s9 S -> a", "rule s9 S -> a :", "rule s9 S -> a : x", "rule s9 S -> : 1",
                     "rule s9 S -> a b c d e : 1", "rule s9 s -> a : 1", "rule S9 S -> a : 1", "rule s9 S a : 1", "rule s9 S -> a : 1 tag",
                     "rule s9 S -> a : 1 under", "rule s9 S -> a : 1 tag T", "rule s9 S -> a : 1 under U", "rule  s9 S -> a : 1",
                     " rule s9 S -> a : 1", "rule s9 S -> a : 1 ", "rule s9 S -> a : 1 x", "scale cost", "start S", "scale", "start"):
            with self.subTest(line=line):
                self.refused(NoLine, line)
                self.refused(NoLine, "words woof", "best 1", line)
        rules = GRAMMAR[2:]
        for head in ([], ["scale cost"], ["start S"], ["start S", "scale cost"], ["scale Cost", "start S"], ["scale cost", "start s"],
                     ["scale cost cost", "start S"], ["scale cost", "start S S"], ["scale cost", "start"], ["scale", "start S"],
                     ["scale  cost", "start S"], ["scale cost", " start S"]):
            with self.subTest(head=head):
                self.refused(NoLine, "words woof", grammar=head + rules)
                self.refused(NoLine, grammar=rules + head)
        self.refused(NoLine, grammar=rules[:1] + GRAMMAR[:2] + rules[1:])
        self.refused(NoLine, grammar=GRAMMAR[:1] + rules[:1] + GRAMMAR[1:2] + rules[1:])
        for text in ("", "\n", "   ", "total", "words a\nbest 1"):
            with self.assertRaises(NoLine):
                answers(text)

    def test_grammars_refusals(self):
        cases = [
            (NoScale, ["scale length", "start S", "rule s1 S -> a : 1"]),
            (NoWeight, ["scale chance", "start S", "rule s1 S -> a : 0"]),
            (NoWeight, ["scale chance", "start S", "rule s1 S -> a : -1/2"]),
            (Twice, ["scale cost", "start S", "rule s1 S -> a : 1", "rule s1 S -> b : 1"]),
            (NoTitle, ["scale cost", "start S", "rule s1 S -> a : 1 under s2"]),
            (NoKind, ["scale cost", "start S", "rule s1 T -> a : 1"]),
            (NoKind, ["scale cost", "start S", "rule s1 S -> A : 1"]),
            (NoKind, ["scale cost", "start S"]),
            (Ring, ["scale cost", "start S", "rule s1 S -> S : 1", "rule s2 S -> a : 1"])]
        for error, grammar in cases:
            with self.subTest(error=error.__name__):
                self.refused(error, grammar=grammar)
                # Ahead of any deed's refusal, wherever the grammar stands.
                self.refused(error, "best 1", grammar=grammar)
                self.refused(error, "net 0", grammar=grammar)
                with self.assertRaises(error):
                    answers("\n".join(["best 1", "net 0"] + grammar))
                # Behind a line that is none.
                self.refused(NoLine, "best 1", "worst 1", grammar=grammar)
                self.refused(NoLine, "best 01", grammar=grammar)
                with self.assertRaises(NoLine):
                    answers("\n".join(["best"] + grammar))

    def test_a_bad_line_behind_all_else(self):
        for line in ("best", "rule", "worst 1", "edge 0 1 a", "words A", "total 1"):
            for deed in (["best 1"], ["net 0"], ["more 1"], ["net 1", "edge 1 0 a 1"], ["net 1", "edge 0 1 a 0", "best 1"]):
                self.refused(NoLine, *deed, line)
                self.refused(NoLine, *deed, line, grammar=CHANCE)

    def test_no_net(self):
        for deed in ("edge 0 1 woof 1", "best 1", "best 0", "distinct 1 1", "distinct 0 0", "total", "learn 1", "learn 0", "more 1",
                     "more 0", "net 0"):
            with self.subTest(deed=deed):
                self.refused(NoNet, deed)
                self.refused(NoNet, deed, "words woof", "best 1")
                self.refused(NoNet, deed, grammar=CHANCE)
        for deed in ("more 1", "more 0"):
            self.refused(NoNet, "words woof", deed)
            self.refused(NoNet, "words woof", "distinct 1 1", "total", "learn 1", deed)
        self.refused(NoNet, "words woof", "best 1", "net 0")
        self.refused(NoNet, "net 2", "net 0")

    def test_edges_that_are_none(self):
        for edge in ("edge 1 0 woof 1", "edge 1 1 woof 1", "edge 0 0 woof 1", "edge 0 3 woof 1", "edge 2 3 woof 1", "edge 3 4 woof 1",
                     "edge 0 999 woof 1", "edge 999 0 woof 1"):
            for net in (["net 2"], ["words dogs bark"], ["net 1", "net 2", "edge 0 2 woof 1"]):
                with self.subTest(edge=edge, net=net):
                    self.refused(NoNet, *net, edge)
                    self.refused(NoNet, *net, edge, "best 1")
        for edge in ("edge 0 1 woof 1", "edge 1 2 woof 1", "edge 0 2 woof 1"):
            told("net 2", edge)

    def test_no_weight(self):
        for weight in ("0", "-1", "-1/2", "0/7"):
            for deed in ("best 1", "best 0", "distinct 1 1", "distinct 0 0", "total", "learn 1", "learn 0"):
                for edge in (f"edge 0 1 a {weight}", f"edge 0 1 zzz {weight}"):
                    with self.subTest(deed=deed, edge=edge):
                        self.refused(NoWeight, "words a", edge, deed, grammar=CHANCE)
                        self.refused(NoWeight, "net 1", "edge 0 1 a 1", edge, deed, grammar=CHANCE)
                        self.refused(NoWeight, "words a", "best 1", edge, "more 1", deed, grammar=CHANCE)
            # The edge alone is not refused, nor is what uses another net.
            got = told("words a", "best 1", f"edge 0 1 a {weight}", "more 1", "words b", "total", grammar=CHANCE)
            self.assertEqual(got, [["1/2 s1(a)"], [], ["1", "2"]])
            self.assertEqual(len(told("words woof", f"edge 0 1 woof {weight}", "best 9")[0]), 2)

    def test_the_first_refused_deed_ends_it(self):
        self.refused(NoWeight, "net 1", "edge 0 1 a 0", "best 1", "net 0", grammar=CHANCE)
        self.refused(NoNet, "net 1", "edge 0 1 a 0", "net 0", "best 1", grammar=CHANCE)
        self.refused(NoNet, "net 1", "edge 0 1 a 0", "more 1", "best 1", grammar=CHANCE)
        self.refused(NoNet, "net 1", "edge 0 1 a 0", "edge 0 2 a 1", "total", grammar=CHANCE)
        self.refused(NoWeight, "net 1", "edge 0 1 a 0", "learn 1", "edge 0 2 a 1", grammar=CHANCE)

    def test_a_grammar_read_and_a_session_agree(self):
        for grammar in (DOGS, PAIRS, TIED):
            text = grammar_text(grammar)
            self.assertEqual(grammar_text(read_grammar(text)), text)
            self.assertEqual(answers(text), [])
            self.assertEqual(len(answers(text + "\nwords a b\ntotal")[0]), 2)


if __name__ == "__main__":
    unittest.main()
