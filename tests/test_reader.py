"""Point [10]: grammars written and read."""

import inspect
import unittest

from kbestwood import reader
from kbestwood.errors import NoKind, NoLine, NoScale, NoTitle, NoWeight, Ring, Twice
from kbestwood.grammars import Grammar, Rule
from kbestwood.reader import grammar_text, read_grammar

ONE = (1, 1)

HEAD = "scale cost\nstart S\n"

WHOLE = """scale chance
start S
rule s1 S -> N V : 3/4 tag says under s2 s3
rule s2 S -> N : 1/4 tag more
rule s3 S -> a S b 0 : 1 under s1
rule s4 S -> a : 2
rule n1 N -> dogs : 1/2 under s1 s1
rule v1 V -> bark : 99/100"""


def fields(grammar):
    """All that a grammar holds, as plain values."""
    rules = [(rule.title, rule.head, rule.parts, rule.weight, rule.tag, rule.under) for rule in grammar.rules]
    return (grammar.scale, grammar.start, rules)


def read_one(line):
    """The fields of the last rule of a text: the line, behind rules that it may speak of."""
    text = HEAD + "rule s2 S -> a : 1\nrule s3 S -> a : 1\nrule n1 N -> a : 1\nrule v1 V -> a : 1\n" + line
    return fields(read_grammar(text))[2][-1]


class Interface(unittest.TestCase):

    def test_arguments(self):
        for name, arguments in {"grammar_text": ["grammar"], "read_grammar": ["text"]}.items():
            self.assertEqual(list(inspect.signature(getattr(reader, name)).parameters), arguments)


class Written(unittest.TestCase):

    def test_the_documents_line(self):
        rules = [Rule("s1", "S", ["N", "V"], (3, 4), "says", ["s2", "s3"]), Rule("s2", "S", ["a"], ONE),
                 Rule("s3", "S", ["a"], ONE), Rule("n1", "N", ["a"], ONE), Rule("v1", "V", ["a"], ONE)]
        lines = grammar_text(Grammar("cost", "S", rules)).split("\n")
        self.assertEqual(lines[:3], ["scale cost", "start S", "rule s1 S -> N V : 3/4 tag says under s2 s3"])
        self.assertEqual(read_one(lines[2]), ("s1", "S", ("N", "V"), (3, 4), "says", ("s2", "s3")))

    def test_written_out(self):
        rules = [Rule("s1", "S", ["a"], (-3, 4)), Rule("s2", "S", ["a", "S", "b", "0"], (0, 1), "t"),
                 Rule("s3", "S", ("b",), (7, 1), "", ["s1"]), Rule("s4", "S", ("b",), (7, 3), "u", ("s4", "s4", "s1"))]
        self.assertEqual(grammar_text(Grammar("cost", "S", rules)),
                         "scale cost\nstart S\nrule s1 S -> a : -3/4\nrule s2 S -> a S b 0 : 0 tag t\n"
                         "rule s3 S -> b : 7 under s1\nrule s4 S -> b : 7/3 tag u under s4 s4 s1")

    def test_scale_and_start(self):
        rules = [Rule("t1", "T", ["a"], ONE), Rule("longtitle123", "LONGHEAD1234", ["b"], ONE)]
        self.assertEqual(grammar_text(Grammar("chance", "LONGHEAD1234", rules)),
                         "scale chance\nstart LONGHEAD1234\nrule t1 T -> a : 1\nrule longtitle123 LONGHEAD1234 -> b : 1")

    def test_longest_weights(self):
        top, bottom = 10 ** 40 - 1, 10 ** 39
        text = grammar_text(Grammar("cost", "S", [Rule("s1", "S", ["a"], (-top, bottom))]))
        self.assertEqual(text, f"scale cost\nstart S\nrule s1 S -> a : -{top}/{bottom}")
        self.assertEqual(fields(read_grammar(text))[2][0][3], (-top, bottom))


class ReadAgain(unittest.TestCase):

    def test_written_read_and_written(self):
        for text in (WHOLE, HEAD + "rule s1 S -> a : 0", HEAD + "rule s1 S -> a S : -1/2 tag x\nrule 0 S -> 0 : 3 under 0"):
            grammar = read_grammar(text)
            self.assertIsInstance(grammar, Grammar)
            self.assertEqual(grammar_text(grammar), text)
            self.assertEqual(fields(read_grammar(grammar_text(grammar))), fields(grammar))

    def test_whole_grammar(self):
        self.assertEqual(fields(read_grammar(WHOLE)), ("chance", "S", [
            ("s1", "S", ("N", "V"), (3, 4), "says", ("s2", "s3")), ("s2", "S", ("N",), (1, 4), "more", None),
            ("s3", "S", ("a", "S", "b", "0"), (1, 1), "", ("s1",)), ("s4", "S", ("a",), (2, 1), "", None),
            ("n1", "N", ("dogs",), (1, 2), "", ("s1", "s1")), ("v1", "V", ("bark",), (99, 100), "", None)]))

    def test_twenty_rules(self):
        lines = [f"rule r{k} S -> a S : {k + 1}/23 tag t{k} under r{19 - k} r{k}" for k in range(20)]
        text = HEAD + "\n".join(lines)
        self.assertEqual(len(read_grammar(text).rules), 20)
        self.assertEqual(grammar_text(read_grammar(text)), text)


class Read(unittest.TestCase):

    def test_tags_and_ties(self):
        begin = "rule s1 S -> a : 1"
        for ending, tag, under in (("", "", None), (" tag t", "t", None), (" under s2", "", ("s2",)),
                                   (" tag t under s2 s3 s1", "t", ("s2", "s3", "s1"))):
            self.assertEqual(read_one(begin + ending), ("s1", "S", ("a",), ONE, tag, under))

    def test_one_to_four_parts(self):
        for parts in ("a", "N", "S a", "a 0 N", "S S b S", "a a a a"):
            self.assertEqual(read_one(f"rule s1 S -> {parts} : 1")[2], tuple(parts.split(" ")))

    def test_weights_not_in_lowest_terms(self):
        for text, weight in (("6/8", (3, 4)), ("0/5", (0, 1)), ("-6/4", (-3, 2)), ("8/4", (2, 1))):
            with self.subTest(text=text):
                self.assertEqual(read_one(f"rule s1 S -> a : {text}")[3], weight)
        self.assertEqual(grammar_text(read_grammar(HEAD + "rule s1 S -> a : 6/8")), HEAD + "rule s1 S -> a : 3/4")

    def test_blank_lines(self):
        lines = WHOLE.split("\n")
        for blank in ("", " ", "     "):
            for text in (blank + "\n" + WHOLE, WHOLE + "\n" + blank, ("\n" + blank + "\n").join(lines),
                         "\n\n" + blank + "\n" + WHOLE + "\n" + blank + "\n\n"):
                self.assertEqual(fields(read_grammar(text)), fields(read_grammar(WHOLE)))

    def test_plain_words_as_names(self):
        text = ("scale cost\nstart S\nrule rule S -> tag under : 1 tag tag under under tag\n"
                "rule tag S -> rule scale start : 2 tag under under rule\nrule under S -> under : 3 tag under\n"
                "rule scale S -> start : 4 under scale start\nrule start S -> scale : 5 tag rule under under under\n"
                "rule cost S -> tag tag tag tag : 6 under tag tag tag\nrule chance S -> tag : 7 tag tag under tag")
        read = fields(read_grammar(text))
        self.assertEqual(read[2], [
            ("rule", "S", ("tag", "under"), (1, 1), "tag", ("under", "tag")),
            ("tag", "S", ("rule", "scale", "start"), (2, 1), "under", ("rule",)),
            ("under", "S", ("under",), (3, 1), "under", None),
            ("scale", "S", ("start",), (4, 1), "", ("scale", "start")),
            ("start", "S", ("scale",), (5, 1), "rule", ("under", "under")),
            ("cost", "S", ("tag",) * 4, (6, 1), "", ("tag", "tag", "tag")),
            ("chance", "S", ("tag",), (7, 1), "tag", ("tag",))])
        self.assertEqual(grammar_text(read_grammar(text)), text)

    def test_two_lines_alone(self):
        for text in ("scale cost\nstart S", "\nscale cost\nstart S", "scale chance\n\nstart S\n  \n"):
            with self.assertRaises(NoKind) as taken:
                read_grammar(text)
            self.assertIs(type(taken.exception), NoKind)


class NoLines(unittest.TestCase):

    def refused(self, text, error=NoLine):
        with self.subTest(text=text):
            with self.assertRaises(error) as taken:
                read_grammar(text)
            self.assertIs(type(taken.exception), error)

    def test_too_few_lines(self):
        for text in ("", "\n", "   ", "\n \n", "scale cost", "start S", "scale cost\n\n  \n", "rule s1 S -> a : 1"):
            self.refused(text)

    def test_first_two_lines(self):
        rest = "\nrule s1 S -> a : 1"
        for first in ("start S\nscale cost", "scale cost\nscale cost", "start S\nstart S", "scale\nstart S",
                      "scale cost\nstart", "scale Cost\nstart S", "scale cost\nstart s", "scale cost chance\nstart S",
                      "scale cost\nstart S S", "scale  cost\nstart S", "scale cost\nstart  S", " scale cost\nstart S",
                      "scale cost \nstart S", "scale cost\n start S", "scale cost\nstart S ", "Scale cost\nstart S",
                      "scale cost\nStart S", "scalecost\nstart S", "scale cost start S", "scale \nstart S",
                      "scale cost\nstart ", "scale co-st\nstart S", f"scale {'a' * 13}\nstart S",
                      f"scale cost\nstart {'S' * 13}", "cost\nS", "scale cost\nrule s1 S -> a : 1", "a cost\nstart S",
                      "scale cost\nscale S"):
            self.refused(first + rest)

    def test_later_lines(self):
        for line in ("scale cost", "start S", "words a", "rule", "Rule s1 S -> a : 1", "rules s1 S -> a : 1",
                     "s1 S -> a : 1", "# rule", "tag t"):
            self.refused(HEAD + line)
            self.refused(HEAD + "rule s1 S -> a : 1\n" + line)

    def test_blanks(self):
        line = "rule s1 S -> a b : 1/2 tag t under s1 s1"
        self.assertEqual(len(read_grammar(HEAD + line).rules), 1)
        self.refused(HEAD + " " + line)
        self.refused(HEAD + line + " ")
        words = line.split(" ")
        for at in range(1, len(words)):
            self.refused(HEAD + " ".join(words[:at]) + "  " + " ".join(words[at:]))
            self.refused(HEAD + " ".join(words[:at]) + " ")
        for short in ("rule s1 S -> a : 1", "rule s1 S -> a : 1 tag t", "rule s1 S -> a : 1 under s1"):
            self.refused(HEAD + short + " ")
            self.refused(HEAD + short + "\t")

    def test_each_word_is_needed(self):
        line = "rule s1 S -> a : 1"
        words = line.split(" ")
        for at in range(len(words)):
            self.refused(HEAD + " ".join(words[:at] + words[at + 1:]))
        for at in range(1, len(words)):
            self.refused(HEAD + " ".join(words[:at]))
        for wrong in ("rule s1 S = a : 1", "rule s1 S > a : 1", "rule s1 S ->a : 1", "rule s1 S-> a : 1", "rule s1 S -> a: 1",
                      "rule s1 S -> a :1", "rule s1 S -> a ; 1", "rule s1 S -> -> a : 1", "rule s1 S -> a : : 1",
                      "rule s1 S -> a : b : 1", "rule -> S s1 a : 1", "rule : S -> a : 1", "rule s1 : -> a : 1",
                      "rule s1 S : a -> 1", "rule s1 S a -> : 1", "rule s1 S -> : a 1"):
            self.refused(HEAD + wrong)

    def test_names(self):
        for line in ("rule S1 S -> a : 1", "rule s1 s -> a : 1", "rule s-1 S -> a : 1", "rule s1 S1. -> a : 1",
                     "rule s1 S -> a- : 1", f"rule {'s' * 13} S -> a : 1", f"rule s1 {'S' * 13} -> a : 1",
                     f"rule s1 S -> {'a' * 13} : 1", f"rule s1 S -> a {'A' * 13} : 1", "rule s1 S -> a : 1 tag T",
                     f"rule s1 S -> a : 1 tag {'t' * 13}", "rule s1 S -> a : 1 under S", "rule s1 S -> a : 1 under s1 S",
                     f"rule s1 S -> a : 1 under {'s' * 13}", "rule s1 S -> a : 1 under s1 -> s1"):
            self.refused(HEAD + line)

    def test_numbers_of_parts(self):
        self.refused(HEAD + "rule s1 S -> : 1")
        self.refused(HEAD + "rule s1 S ->  : 1")
        self.refused(HEAD + "rule s1 S -> a a a a a : 1")

    def test_weights(self):
        for weight in ("", "a", "-", "1/", "/2", "1/0", "01", "1/02", "-0", "-0/5", "+1", "1.5", "1/-2", "1/2/3", "0x1",
                       "1" * 41, "1/" + "1" * 41, "--1", "1e3", "1_0"):
            self.refused(HEAD + f"rule s1 S -> a : {weight}")
            self.refused(HEAD + f"rule s1 S -> a : {weight} tag t")
        self.refused(HEAD + "rule s1 S -> a : tag t")
        self.refused(HEAD + "rule s1 S -> a : 1 2")
        self.refused(HEAD + "rule s1 S -> a : 1 / 2")

    def test_endings(self):
        for ending in ("tag", "under", "tag t under", "tag t tag u", "under s1 tag-t", "tag t u", "t", "tag under s1",
                       "Tag t", "tags t", "tag t Under s1", "tag t s1", ": 1", "tag : t", "tag  under s1"):
            self.refused(HEAD + f"rule s1 S -> a : 1 {ending}")

    def test_tag_and_under_turned_about(self):
        # Behind under all words are titles, so this line is well written, but no rule is called tag or t.
        self.refused(HEAD + "rule s1 S -> a : 1 under s1 tag t", NoTitle)
        self.refused(HEAD + "rule s1 S -> a : 1 under s1 tag T")

    def test_no_line_ahead_of_all_else(self):
        bad = "\nrule s9 S -> a"
        for text in ("scale price\nstart S\nrule s1 S -> a : 1", "scale cost\nstart T\nrule s1 S -> a : 1",
                     "scale chance\nstart S\nrule s1 S -> a : 0", HEAD + "rule s1 S -> a : 1\nrule s1 S -> a : 1",
                     HEAD + "rule s1 S -> a : 1 under s2", HEAD + "rule s1 S -> T : 1", HEAD + "rule s1 S -> S : 1"):
            self.refused(text + bad)
            self.refused(text + "\nrule s9 S -> a : 1/0")
            self.refused(text + "\nrule s9 S -> a a a a a : 1")
            self.refused(text + "\nscale cost")

    def test_grammars_refusals(self):
        self.refused("scale price\nstart S\nrule s1 S -> a : 1", NoScale)
        self.refused("scale 0\nstart T", NoScale)
        self.refused("scale start\nstart T\nrule s1 S -> a : 0\nrule s1 S -> a : 0", NoScale)
        self.refused("scale chance\nstart S\nrule s1 S -> a : 0", NoWeight)
        self.refused("scale chance\nstart S\nrule s1 S -> a : -1/2", NoWeight)
        self.refused(HEAD + "rule s1 S -> a : 1\nrule s1 S -> a : 1", Twice)
        self.refused(HEAD + "rule s1 S -> a : 1 under s2", NoTitle)
        self.refused("scale cost\nstart T\nrule s1 S -> a : 1", NoKind)
        self.refused(HEAD + "rule s1 S -> T : 1", NoKind)
        self.refused(HEAD + "rule s1 S -> S : 1", Ring)


if __name__ == "__main__":
    unittest.main()
