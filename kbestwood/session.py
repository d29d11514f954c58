"""Sessions: texts of a grammar's lines and of deeds, and how they are answered."""

from kbestwood.deeds import Desk, do_deed, read_deed
from kbestwood.grammars import Grammar
from kbestwood.reader import lines_of, read_lines

GRAMMAR_WORDS = ("scale", "start", "rule")


def answers(text):
    """The answers to a session's deeds, each a list of texts."""
    lines = lines_of(text)
    # All lines are read ahead of anything else, so that a line that is none is refused first.
    scale, start, rules = read_lines([line for line in lines if is_grammar_line(line)])
    deeds = [read_deed(line) for line in lines if not is_grammar_line(line)]
    desk = Desk(Grammar(scale, start, rules))
    told = [do_deed(desk, word, things) for word, things in deeds]
    return [answer for answer in told if answer is not None]


def is_grammar_line(line):
    """Whether a line is one of the grammar's, by its first word."""
    return line.split(" ")[0] in GRAMMAR_WORDS
