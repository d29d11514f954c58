"""Points [3], [7], [8] and [9]: names, rules, grammars and where a rule may stand."""

import inspect
import itertools
import string
import unittest

from kbestwood import grammars
from kbestwood.errors import NoKind, NoRule, NoScale, NoTitle, NoWeight, Ring, Twice
from kbestwood.grammars import Grammar, Rule, is_kind, is_word, may_stand

ONE = (1, 1)
FOREIGN = (" ", "-", "_", ".", ":", "/", ">", "(", ",", "\n", "\t", "@", "[", "`", "{", "~", "\u00e4", "\u00c4", "\u0660",
           "\u00b2", "\u0131")


def refused(case, error, call, *handed, **named):
    """Sees that a call is refused with just this class."""
    with case.assertRaises(error) as taken:
        call(*handed, **named)
    case.assertIs(type(taken.exception), error)


class Interface(unittest.TestCase):

    def test_arguments(self):
        told = {"is_kind": ["text"], "is_word": ["text"], "Grammar": ["scale", "start", "rules"],
                "Rule": ["title", "head", "parts", "weight", "tag", "under"],
                "may_stand": ["grammar", "number", "above"]}
        for name, arguments in told.items():
            with self.subTest(name=name):
                self.assertEqual(list(inspect.signature(getattr(grammars, name)).parameters), arguments)

    def test_what_may_be_left_out(self):
        told = inspect.signature(Rule).parameters
        self.assertEqual(told["tag"].default, "")
        self.assertIs(told["under"].default, None)

    def test_by_name(self):
        rule = Rule(title="s1", head="S", parts=["a"], weight=ONE, tag="t", under=None)
        grammar = Grammar(scale="cost", start="S", rules=[rule])
        self.assertIs(may_stand(grammar=grammar, number=0, above=-1), True)


class Names(unittest.TestCase):

    def test_first_sign(self):
        for sign in string.ascii_uppercase:
            for name in (sign, sign + "a", sign + "0", sign + "Z", sign * 12):
                self.assertIs(is_kind(name), True)
                self.assertIs(is_word(name), False)
        for sign in string.ascii_lowercase + string.digits:
            for name in (sign, sign + "a", sign + "0", sign + "Z", sign * 12):
                self.assertIs(is_kind(name), False)
                self.assertIs(is_word(name), True)

    def test_every_sign_may_stand_behind(self):
        for sign in string.ascii_letters + string.digits:
            self.assertIs(is_kind("K" + sign), True)
            self.assertIs(is_word("k" + sign), True)

    def test_length(self):
        for length in range(1, 13):
            self.assertIs(is_kind("K" * length), True)
            self.assertIs(is_word("7" * length), True)
        for text in ("", "K" * 13, "k" * 13, "7" * 13, "K" * 14, "k" * 100, "k" * 12 + "\n"):
            with self.subTest(text=text):
                self.assertIs(is_kind(text), False)
                self.assertIs(is_word(text), False)

    def test_foreign_signs(self):
        for sign in FOREIGN:
            for name in ("Kind", "word", "7th"):
                for text in (sign, sign + name, name[:2] + sign + name[2:], name + sign):
                    with self.subTest(text=text):
                        self.assertIs(is_kind(text), False)
                        self.assertIs(is_word(text), False)


class Rules(unittest.TestCase):

    def test_every_field(self):
        rule = Rule("s1", "S", ["N", "dogs"], (3, 4), "says", ["s2", "s3"])
        told = (rule.title, rule.head, rule.parts, rule.weight, rule.tag, rule.under)
        self.assertEqual(told, ("s1", "S", ("N", "dogs"), (3, 4), "says", ("s2", "s3")))

    def test_left_out(self):
        rule = Rule("s1", "S", ["N"], (3, 4))
        self.assertEqual(rule.tag, "")
        self.assertIs(rule.under, None)
        self.assertEqual(Rule("s1", "S", ["N"], (3, 4), under=("s1",)).tag, "")
        self.assertIs(Rule("s1", "S", ["N"], (3, 4), "says").under, None)

    def test_lists_and_tuples_are_kept_as_tuples(self):
        for kind, other in itertools.product((list, tuple), (list, tuple)):
            rule = Rule("s1", "S", kind(["N", "V"]), ONE, "", other(["s2", "s3"]))
            self.assertEqual((rule.parts, rule.under), (("N", "V"), ("s2", "s3")))
            self.assertIs(type(rule.parts), tuple)
            self.assertIs(type(rule.under), tuple)

    def test_copies_are_kept(self):
        parts, under = ["N", "V"], ["s2"]
        rule = Rule("s1", "S", parts, ONE, "", under)
        self.assertEqual((parts, under), (["N", "V"], ["s2"]))
        parts.append("W")
        parts[0] = "X"
        under.clear()
        self.assertEqual((rule.parts, rule.under), (("N", "V"), ("s2",)))

    def test_one_to_four_parts(self):
        for many in range(1, 5):
            for part in ("N", "n", "0", "N" * 12, "n" * 12):
                self.assertEqual(Rule("s1", "S", [part] * many, ONE).parts, (part,) * many)

    def test_titles_under(self):
        for under in (["s1"], ["s2", "s2"], ["s1", "s1", "s2"], ["s" * 12], ["0"], ["a"] * 30):
            self.assertEqual(Rule("s1", "S", ["a"], ONE, "", under).under, tuple(under))

    def test_longest_names(self):
        rule = Rule("s" * 12, "S" * 12, ["N" * 12], ONE, "t" * 12, ["u" * 12])
        self.assertEqual((rule.title, rule.head, rule.tag), ("s" * 12, "S" * 12, "t" * 12))

    def test_the_weight_is_not_looked_at(self):
        for weight in ((0, 1), (-3, 4), (2, 4), (1, 0), None, "much"):
            self.assertEqual(Rule("s1", "S", ["a"], weight).weight, weight)

    def test_refused_words(self):
        for text in ("", "S1", "s" * 13, "a b", "a-b", "a\n", " a", "a%"):
            with self.subTest(text=text):
                refused(self, NoRule, Rule, text, "S", ["a"], ONE)
                refused(self, NoRule, Rule, "s1", "S", ["a"], ONE, "", [text])
                refused(self, NoRule, Rule, "s1", "S", ["a"], ONE, "", ("s1", text))
                refused(self, NoRule, Rule, "s1", "S", ["a"], ONE, "", ("s1", text, "s2"))
                if text != "":
                    refused(self, NoRule, Rule, "s1", "S", ["a"], ONE, text)

    def test_refused_heads(self):
        for text in ("", "s", "0", "S" * 13, "S T", "S-", "S\n", " S"):
            with self.subTest(text=text):
                refused(self, NoRule, Rule, "s1", text, ["a"], ONE)

    def test_refused_parts(self):
        for part in ("", "N" * 13, "n" * 13, "a b", "->", ":", "N\n"):
            for parts in ([part], ["N", part], [part, "n"], ["a", "b", "c", part]):
                with self.subTest(parts=parts):
                    refused(self, NoRule, Rule, "s1", "S", parts, ONE)
                    refused(self, NoRule, Rule, "s1", "S", tuple(parts), ONE)

    def test_refused_numbers_of_parts(self):
        for parts in ([], (), ["a"] * 5, ("N",) * 5, ["a"] * 6):
            with self.subTest(parts=parts):
                refused(self, NoRule, Rule, "s1", "S", parts, ONE)

    def test_refused_under_with_no_title(self):
        refused(self, NoRule, Rule, "s1", "S", ["a"], ONE, "", [])
        refused(self, NoRule, Rule, "s1", "S", ["a"], ONE, "", ())

    def test_refused_other_kinds_of_things(self):
        for thing in (None, 7, True, b"a", ["a"], ("S",)):
            with self.subTest(thing=thing):
                refused(self, NoRule, Rule, thing, "S", ["a"], ONE)
                refused(self, NoRule, Rule, "s1", thing, ["a"], ONE)
                refused(self, NoRule, Rule, "s1", "S", [thing], ONE)
                refused(self, NoRule, Rule, "s1", "S", ["a"], ONE, thing)
                refused(self, NoRule, Rule, "s1", "S", ["a"], ONE, "", [thing])
        for thing in (None, "a", "abc", 7):
            with self.subTest(thing=thing):
                refused(self, NoRule, Rule, "s1", "S", thing, ONE)
        for thing in ("a", "abc", "", 7, False):
            with self.subTest(thing=thing):
                refused(self, NoRule, Rule, "s1", "S", ["a"], ONE, "", thing)


def leaf(title, head, weight=ONE, under=None):
    """A rule of one word."""
    return Rule(title, head, ["a"], weight, "", under)


def chain(title, head, part, under=None):
    """A rule of one kind."""
    return Rule(title, head, [part], ONE, "", under)


class Grammars(unittest.TestCase):

    def test_fields(self):
        rules = [Rule("s1", "S", ["N", "V"], (3, 4)), leaf("n1", "N"), leaf("v1", "V")]
        for scale in ("cost", "chance"):
            for handed in (rules, tuple(rules)):
                grammar = Grammar(scale, "N", handed)
                self.assertEqual((grammar.scale, grammar.start), (scale, "N"))
                self.assertIs(type(grammar.rules), tuple)
                self.assertEqual([rule.title for rule in grammar.rules], ["s1", "n1", "v1"])
                self.assertEqual([rule.weight for rule in grammar.rules], [(3, 4), ONE, ONE])

    def test_copies_are_kept(self):
        rules = [leaf("s1", "S"), leaf("s2", "S")]
        grammar = Grammar("cost", "S", rules)
        self.assertEqual(len(rules), 2)
        rules.clear()
        self.assertEqual([rule.title for rule in grammar.rules], ["s1", "s2"])

    def test_no_rules(self):
        for scale in ("cost", "chance"):
            refused(self, NoKind, Grammar, scale, "S", [])
        refused(self, NoScale, Grammar, "price", "S", [])

    def test_no_scale(self):
        for word in ("", "Cost", "costs", "chance ", "price"):
            refused(self, NoScale, Grammar, word, "S", [leaf("s1", "S")])

    def test_weights(self):
        for weight in ((0, 1), (-1, 1), (-3, 4), (-1, 10 ** 39)):
            with self.subTest(weight=weight):
                self.assertEqual(Grammar("cost", "S", [leaf("s1", "S", weight)]).rules[0].weight, weight)
                refused(self, NoWeight, Grammar, "chance", "S", [leaf("s1", "S", weight)])
                refused(self, NoWeight, Grammar, "chance", "S", [leaf("s1", "S"), leaf("s2", "S", weight)])
        for weight in ((1, 10 ** 39), (5, 1)):
            self.assertEqual(Grammar("chance", "S", [leaf("s1", "S", weight)]).rules[0].weight, weight)

    def test_twice(self):
        refused(self, Twice, Grammar, "cost", "S", [leaf("s1", "S"), leaf("s1", "S")])
        refused(self, Twice, Grammar, "cost", "S", [leaf("s1", "S"), leaf("s2", "S"), leaf("s1", "T")])
        self.assertEqual(len(Grammar("cost", "S", [leaf("s1", "S"), leaf("s2", "S")]).rules), 2)

    def test_no_title(self):
        refused(self, NoTitle, Grammar, "cost", "S", [leaf("s1", "S", ONE, ["s2"])])
        refused(self, NoTitle, Grammar, "cost", "S", [leaf("s1", "S"), leaf("s2", "S", ONE, ["s1", "s3"])])
        refused(self, NoTitle, Grammar, "cost", "S", [leaf("s1", "S", ONE, ["s3", "s2"]), leaf("s2", "S")])

    def test_titles_under_that_are_there(self):
        for under in (["s1"], ["s2"], ["s2", "s1"], ["s2", "s2"]):
            grammar = Grammar("cost", "S", [leaf("s1", "S", ONE, under), leaf("s2", "S")])
            self.assertEqual(grammar.rules[0].under, tuple(under))

    def test_no_kind(self):
        refused(self, NoKind, Grammar, "cost", "T", [leaf("s1", "S")])
        refused(self, NoKind, Grammar, "cost", "s1", [leaf("s1", "S")])
        refused(self, NoKind, Grammar, "cost", "", [leaf("s1", "S")])
        for parts in (["T"], ["S", "T"], ["T", "a"], ["a", "a", "a", "T"]):
            refused(self, NoKind, Grammar, "cost", "S", [leaf("s1", "S"), Rule("s2", "S", parts, ONE)])
        # A word needs no rule, and a head need not be come to from the start.
        self.assertEqual(len(Grammar("cost", "S", [leaf("s1", "S"), leaf("t1", "T")]).rules), 2)


class Rings(unittest.TestCase):

    def rings(self, rules):
        """Sees that rules make a ring in every order of them."""
        for order in itertools.permutations(rules):
            refused(self, Ring, Grammar, "cost", "S", list(order))

    def no_rings(self, rules):
        """Sees that rules make no ring in any order of them."""
        for order in itertools.permutations(rules):
            self.assertEqual(len(Grammar("cost", "S", list(order)).rules), len(rules))

    def test_one_rule(self):
        self.rings([chain("s1", "S", "S")])
        self.rings([chain("s1", "S", "S"), leaf("s2", "S"), leaf("t1", "T")])

    def test_two_rules(self):
        self.rings([chain("s1", "S", "T"), chain("t1", "T", "S"), leaf("s2", "S")])

    def test_three_rules_beside_others(self):
        self.rings([chain("a1", "A", "B"), chain("b1", "B", "C"), chain("c1", "C", "A"), chain("s1", "S", "A"),
                    chain("b2", "B", "D"), leaf("d1", "D")])

    def test_ring_that_is_not_come_to_from_the_start(self):
        self.rings([leaf("s1", "S"), chain("t1", "T", "U"), chain("u1", "U", "T")])

    def test_many_rules(self):
        kinds = ["S", "A", "B", "C", "D", "E", "F", "G"]
        steps = [chain("r" + kind.lower(), kind, part) for kind, part in zip(kinds, kinds[1:] + kinds[:1])]
        leaves = [leaf("l" + kind.lower(), kind) for kind in kinds]
        for turn in range(len(kinds)):
            turned = steps[turn:] + steps[:turn]
            for rules in (turned + leaves, leaves + turned[::-1]):
                refused(self, Ring, Grammar, "cost", "S", rules)
                cut = [rule for rule in rules if rule.title != "rc"]
                self.assertEqual(len(Grammar("cost", "S", cut).rules), 15)

    def test_tied_rules(self):
        self.rings([chain("s1", "S", "S", ["s2"]), leaf("s2", "S")])
        self.rings([chain("s1", "S", "T", ["s2"]), chain("t1", "T", "S", ["s2"]), leaf("s2", "S")])
        self.rings([chain("s1", "S", "T"), chain("t1", "T", "S", ["t1"]), leaf("s2", "S")])

    def test_no_ring(self):
        self.no_rings([chain("s1", "S", "A"), chain("s2", "S", "B"), chain("a1", "A", "B"), chain("b1", "B", "C"),
                       leaf("c1", "C")])
        self.no_rings([chain("s1", "S", "A"), chain("s2", "S", "A"), leaf("a1", "A")])

    def test_two_parts_make_none(self):
        self.no_rings([Rule("s1", "S", ["S", "S"], ONE), leaf("s2", "S")])
        self.no_rings([Rule("s1", "S", ["T", "a"], ONE), chain("t1", "T", "S"), leaf("s2", "S")])
        self.no_rings([Rule("s1", "S", ["a", "T"], ONE), Rule("t1", "T", ["S", "a"], ONE), leaf("s2", "S")])

    def test_words_make_none(self):
        self.no_rings([Rule("s", "S", ["s"], ONE), Rule("s2", "S", ["s2"], ONE)])


class OrderOfRefusals(unittest.TestCase):

    def test_each_pair(self):
        twice = [leaf("d1", "S"), leaf("d1", "S")]
        # Each refusal by the rules, or the start or the scale, that bring it about; in the order told.
        faults = [(NoScale, "price", "S", []), (NoWeight, "chance", "S", [leaf("w1", "S", (0, 1))]),
                  (Twice, "chance", "S", twice), (NoTitle, "chance", "S", [leaf("u1", "S", ONE, ["none"])]),
                  (NoKind, "chance", "S", [Rule("k1", "S", ["T"], ONE)]),
                  (Ring, "chance", "S", [chain("r1", "R", "R")])]
        fine = [leaf("s1", "S")]
        for error, scale, start, rules in faults:
            refused(self, error, Grammar, scale, start, fine + rules)
        for (error, scale, start, rules), (later, other_scale, other_start, others) in itertools.combinations(faults, 2):
            for order in itertools.permutations([fine, rules, others]):
                handed = [rule for part in order for rule in part]
                # Of NoWeight and Twice the one of the earlier rule is first; tested below.
                if {error, later} != {NoWeight, Twice}:
                    with self.subTest(error=error, later=later):
                        refused(self, error, Grammar, scale, start, handed)

    def test_bad_start(self):
        refused(self, NoTitle, Grammar, "cost", "T", [leaf("s1", "S", ONE, ["none"])])
        refused(self, NoKind, Grammar, "cost", "T", [chain("s1", "S", "S")])
        refused(self, NoScale, Grammar, "price", "T", [leaf("s1", "S", ONE, ["none"])])

    def test_weight_and_title_rule_by_rule(self):
        good, bad = leaf("s1", "S"), leaf("s2", "S", (0, 1))
        same, both = leaf("s1", "S"), leaf("s1", "S", (-1, 2))
        refused(self, Twice, Grammar, "chance", "S", [good, same, bad])
        refused(self, NoWeight, Grammar, "chance", "S", [good, bad, same])
        refused(self, NoWeight, Grammar, "chance", "S", [bad, good, same])
        refused(self, NoWeight, Grammar, "chance", "S", [good, both])
        refused(self, Twice, Grammar, "cost", "S", [good, both])
        refused(self, NoWeight, Grammar, "chance", "S", [good, both, same])
        refused(self, Twice, Grammar, "chance", "S", [good, same, both])


class MayStand(unittest.TestCase):

    def setUp(self):
        self.grammar = Grammar("cost", "S", [Rule("s1", "S", ["S", "T"], ONE), leaf("s2", "S"),
                                             leaf("t1", "T", ONE, ["s1"]), leaf("t2", "T", ONE, ["t2", "s2", "s2"]),
                                             leaf("t3", "T", ONE, ["t1", "s1", "t4"]), leaf("t4", "T")])

    def test_each_rule_and_number_above(self):
        allowed = {0: (-1, 0, 1, 2, 3, 4, 5), 1: (-1, 0, 1, 2, 3, 4, 5), 2: (0,), 3: (3, 1), 4: (2, 0, 5),
                   5: (-1, 0, 1, 2, 3, 4, 5)}
        for number, above in itertools.product(range(6), range(-1, 6)):
            with self.subTest(number=number, above=above):
                self.assertIs(may_stand(self.grammar, number, above), above in allowed[number])

    def test_the_last_rule_is_not_meant_by_the_top(self):
        grammar = Grammar("cost", "S", [leaf("s1", "S", ONE, ["s2"]), leaf("s2", "S")])
        self.assertIs(may_stand(grammar, 0, -1), False)
        self.assertIs(may_stand(grammar, 0, 1), True)


if __name__ == "__main__":
    unittest.main()
