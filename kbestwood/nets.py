"""Nets: the words that may be read from a first place to a last one."""

from kbestwood.errors import NoNet
from kbestwood.grammars import is_word
from kbestwood.scales import scale_of


def is_whole(thing):
    """Whether a thing is a whole number; True and False are none."""
    return isinstance(thing, int) and not isinstance(thing, bool)


def is_edge(edge, places):
    """Whether a thing is an edge of a net of so many places; its weight is not looked at."""
    if not isinstance(edge, tuple) or len(edge) != 4:
        return False
    begin, end, word, weight = edge
    if not is_whole(begin) or not is_whole(end):
        return False
    return 0 <= begin < end <= places and is_word(word)


class Net:
    """Edges, counted from nought, between the places from 0 to the number of places."""

    def __init__(self, places, edges):
        if not is_whole(places) or places < 1:
            raise NoNet("a net has one place or more behind its first one")
        if not all([is_edge(edge, places) for edge in edges]):
            raise NoNet("an edge leads from a place to a later one, by a word")
        self.places = places
        self.edges = tuple(edges)


def row_net(words, scale):
    """The net of a row of words, whose edges weigh nothing on the scale of a word."""
    nothing = scale_of(scale).empty()
    return Net(len(words), [(at, at + 1, word, nothing) for at, word in enumerate(words)])
