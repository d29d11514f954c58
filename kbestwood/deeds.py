"""Deeds: what a session can be told to do, how this is written, and how it is answered."""

from kbestwood.errors import NoLine, NoNet
from kbestwood.fractions import fraction_text, is_bottom, read_fraction
from kbestwood.grammars import is_word
from kbestwood.learning import learnt
from kbestwood.lumps import total
from kbestwood.meanings import Distinct
from kbestwood.nets import Net, row_net
from kbestwood.teller import Teller, first_trees
from kbestwood.trees import tree_text, weight_of
from kbestwood.woods import wood_of

MOST_FIGURES = 3

FORMS = {
    "net": ("number",),
    "edge": ("number", "number", "word", "weight"),
    "best": ("number",),
    "more": ("number",),
    "distinct": ("number", "number"),
    "total": (),
    "learn": ("number",),
}


class Desk:
    """What a session works with: its grammar, the net of the moment, and the teller of the last best."""

    def __init__(self, grammar):
        self.grammar = grammar
        self.net = None
        self.teller = None


def read_deed(line):
    """The first word of a deed's line, and the list of what the words behind it tell."""
    word, *rest = line.split(" ")
    # Only behind words there may be any number of words, but not none.
    forms = ("word",) * max(len(rest), 1) if word == "words" else FORMS.get(word)
    if forms is None or len(rest) != len(forms):
        raise NoLine("a line is no deed, or has too few words or too many")
    return (word, [read_thing(form, text) for form, text in zip(forms, rest)])


def read_thing(form, text):
    """What a word of a deed's line tells, by its form."""
    if form == "number":
        return read_number(text)
    if form == "weight":
        return read_fraction(text)
    if not is_word(text):
        raise NoLine("a word in a deed's line is none")
    return text


def read_number(text):
    """The number that one to three figures write."""
    if len(text) > MOST_FIGURES or not (text == "0" or is_bottom(text)):
        raise NoLine("a deed's number has one to three figures, the first no nought")
    return int(text)


def net_of(desk):
    """The net of the moment."""
    if desk.net is None:
        raise NoNet("there is no net yet")
    return desk.net


def wood_on(desk):
    """The wood of the net of the moment."""
    return wood_of(desk.grammar, net_of(desk))


def tree_lines(wood, trees):
    """For each tree the text of its weight and of itself."""
    grammar, net = wood.grammar, wood.net
    return [f"{fraction_text(weight_of(grammar, net, tree))} {tree_text(grammar, net, tree)}" for tree in trees]


def do_words(desk, things):
    """The net is that of a row of words."""
    desk.net = row_net(things, desk.grammar.scale)


def do_net(desk, things):
    """The net has so many places and no edges."""
    desk.net = Net(things[0], [])


def do_edge(desk, things):
    """The net has one edge more."""
    net = net_of(desk)
    desk.net = Net(net.places, net.edges + (tuple(things),))


def do_best(desk, things):
    """The first trees of the net, by a new teller."""
    desk.teller = Teller(wood_on(desk))
    return do_more(desk, things)


def do_more(desk, things):
    """The next trees of the last best."""
    if desk.teller is None:
        raise NoNet("there is no best yet")
    return tree_lines(desk.teller.wood, desk.teller.more(things[0]))


def do_distinct(desk, things):
    """The first trees of unlike meanings."""
    many, look = things
    wood = wood_on(desk)
    return tree_lines(wood, Distinct(wood, look).more(many))


def do_total(desk, things):
    """How many trees the net has, and the sum of their weights."""
    count, whole = total(wood_on(desk))
    return [str(count), fraction_text(whole)]


def do_learn(desk, things):
    """What is learnt from the first trees of the net."""
    trees = first_trees(wood_on(desk), things[0])
    if not trees:
        return ["nothing"]
    weights = learnt(desk.grammar, trees)
    return [f"{rule.title} {fraction_text(weight)}" for rule, weight in zip(desk.grammar.rules, weights)]


DEEDS = {
    "words": do_words,
    "net": do_net,
    "edge": do_edge,
    "best": do_best,
    "more": do_more,
    "distinct": do_distinct,
    "total": do_total,
    "learn": do_learn,
}


def do_deed(desk, word, things):
    """Does a deed: the list of texts by which it is answered, or None where it is not answered."""
    deed = DEEDS[word]
    return deed(desk, things)
