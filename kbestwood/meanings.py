"""Meanings: what trees tell by their words and tags, and the first tree of each meaning."""

from kbestwood.teller import Teller


def marks_of(grammar, net, tree):
    """The telling of a tree as a flat list: its words, and brackets, a tag behind each opening one."""
    marks = []
    waiting = [tree]
    while waiting:
        part = waiting.pop()
        if isinstance(part, str):
            marks.append(part)
        elif isinstance(part, tuple):
            number, kids = part
            tag = grammar.rules[number].tag
            if tag != "":
                marks.extend(["(", tag])
                waiting.append(")")
            waiting.extend(kids[::-1])
        else:
            marks.append(net.edges[part][2])
    return marks


def telling(grammar, net, tree):
    """The telling of a tree: a tuple of words and of tuples (tag, telling)."""
    rows = [[]]
    for mark in marks_of(grammar, net, tree):
        if mark == "(":
            rows.append([])
        elif mark == ")":
            tag, *items = rows.pop()
            rows[-1].append((tag, tuple(items)))
        else:
            rows[-1].append(mark)
    return tuple(rows[0])


class Distinct:
    """Tells those trees of a wood whose telling no tree ahead of them has, among the first so many as look tells."""

    def __init__(self, wood, look):
        self.wood = wood
        self.look = look
        self.teller = Teller(wood)
        self.gone = 0
        self.tellings = {}

    def more(self, many):
        """The list of the next so many such trees, or of as many as there are."""
        trees = []
        while len(trees) < many and self.gone < self.look:
            found = self.teller.more(1)
            if not found:
                break
            self.gone += 1
            if self.is_new(found[0]):
                trees.append(found[0])
        return trees

    def looked(self):
        """How many trees were looked at."""
        return self.gone

    def is_new(self, tree):
        """Whether a tree's telling was not met yet; from here on it is."""
        # A telling may be too deep for a key, the text of its marks is not.
        key = " ".join(marks_of(self.wood.grammar, self.wood.net, tree))
        if key in self.tellings:
            return False
        self.tellings[key] = True
        return True
