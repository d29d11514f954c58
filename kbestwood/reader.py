"""Grammars as texts: how they are written, and how they are read."""

from kbestwood.errors import NoLine, NoRule
from kbestwood.fractions import fraction_text, read_fraction
from kbestwood.grammars import Grammar, Rule, is_kind, is_word


def grammar_text(grammar):
    """A grammar as it is written."""
    lines = [f"scale {grammar.scale}", f"start {grammar.start}"]
    return "\n".join(lines + [rule_text(rule) for rule in grammar.rules])


def rule_text(rule):
    """A rule's line."""
    words = ["rule", rule.title, rule.head, "->"] + list(rule.parts) + [":", fraction_text(rule.weight)]
    if rule.tag != "":
        words.extend(["tag", rule.tag])
    if rule.under is not None:
        words.append("under")
        words.extend(rule.under)
    return " ".join(words)


def read_grammar(text):
    """The grammar that a text writes."""
    scale, start, rules = read_lines(lines_of(text))
    return Grammar(scale, start, rules)


def lines_of(text):
    """The lines of a text, without the empty ones and those of blanks alone."""
    return [line for line in text.split("\n") if line.strip(" ") != ""]


def read_lines(lines):
    """The scale's word, the start and the rules that lines write; only the lines' form is looked at."""
    if len(lines) < 2:
        raise NoLine("a grammar has a line for its scale and one for its start")
    return (read_scale(lines[0]), read_start(lines[1]), [read_rule(line) for line in lines[2:]])


def read_scale(line):
    """The word of a scale's line, whether there is such a scale or not."""
    words = line.split(" ")
    if len(words) != 2 or words[0] != "scale" or not is_word(words[1]):
        raise NoLine("a scale's line is written: scale WORD")
    return words[1]


def read_start(line):
    """The kind of a start's line."""
    words = line.split(" ")
    if len(words) != 2 or words[0] != "start" or not is_kind(words[1]):
        raise NoLine("a start's line is written: start KIND")
    return words[1]


def read_rule(line):
    """The rule of a rule's line."""
    words = line.split(" ")
    if words[0] != "rule" or words[3:4] != ["->"] or ":" not in words[:-1]:
        raise NoLine("a rule's line is written: rule TITLE HEAD -> PARTS : WEIGHT")
    colon = words.index(":")
    weight = read_fraction(words[colon + 1])
    tag, under = read_tag_and_under(words[colon + 2:])
    try:
        return Rule(words[1], words[2], words[4:colon], weight, tag, under)
    except NoRule:
        # What makes no rule is no rule's line either.
        raise NoLine("a name in a rule's line is none, or there are too many parts or too few") from None


def read_tag_and_under(words):
    """The tag, and the titles under a rule, that the words behind its weight tell."""
    tag, under = "", None
    if words[:1] == ["tag"]:
        if len(words) == 1 or not is_word(words[1]):
            raise NoLine("behind tag stands a word")
        tag, words = words[1], words[2:]
    if words[:1] == ["under"]:
        under, words = words[1:], []
    if words:
        raise NoLine("behind a rule's weight stand only its tag and the titles under it")
    return (tag, under)
