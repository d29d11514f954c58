"""The refusals of the program: each class stands under WoodError alone."""


class WoodError(ValueError):
    """Any refusal."""


class NoLine(WoodError):
    """A text or a line is not written as it must be."""


class NoScale(WoodError):
    """A word is neither cost nor chance."""


class NoRule(WoodError):
    """A rule is made of things that make none."""


class NoWeight(WoodError):
    """A weight is none of the scale."""


class Twice(WoodError):
    """Two rules have one title."""


class NoTitle(WoodError):
    """A title under a rule is no rule's."""


class NoKind(WoodError):
    """A kind is the head of no rule."""


class Ring(WoodError):
    """Rules of one part lead round to where they began."""


class NoNet(WoodError):
    """A net or an edge is not as it must be, or is not there yet."""


class TooMany(WoodError):
    """There are more trees than may be told."""


class NoTree(WoodError):
    """There is no tree, or one that is none of the grammar."""
