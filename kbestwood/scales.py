"""The two scales, which tell how weights are put together, and lumps of weights."""

from kbestwood.errors import NoScale
from kbestwood.fractions import compared, fraction, loose_sum, product_of, sum_of


class Scale:
    """What both scales share; only Cost and Chance tell all of it."""

    def word(self):
        """The scale's word."""
        raise NotImplementedError("a plain scale has no word")

    def empty(self):
        """The weight of nothing."""
        raise NotImplementedError("a plain scale has no weights")

    def takes(self, weight):
        """Whether a fraction is a weight of the scale."""
        raise NotImplementedError("a plain scale has no weights")

    def join(self, one, other):
        """Two weights together."""
        raise NotImplementedError("a plain scale joins nothing")

    def ahead(self, one, other):
        """Whether the one weight stands ahead of the other."""
        raise NotImplementedError("a plain scale has no order")

    def loosely_joined(self, one, other):
        """Two lumps joined, with a sum that may not be in lowest terms."""
        raise NotImplementedError("a plain scale joins nothing")

    def lumps_joined(self, one, other):
        """The lump of all things made of one of the one and one of the other."""
        count, (top, bottom) = self.loosely_joined(one, other)
        return (count, fraction(top, bottom))

    def together(self, weights):
        """A list of weights together."""
        whole = self.empty()
        for weight in weights:
            whole = self.join(whole, weight)
        return whole


class Cost(Scale):
    """Weights are added, and the lesser one stands ahead."""

    def word(self):
        """The scale's word."""
        return "cost"

    def empty(self):
        """The weight of nothing."""
        return (0, 1)

    def takes(self, weight):
        """Whether a fraction is a weight of the scale: any is."""
        return True

    def join(self, one, other):
        """Two weights together: their sum."""
        return sum_of(one, other)

    def ahead(self, one, other):
        """Whether the one weight stands ahead of the other: the lesser one does."""
        return compared(one, other) < 0

    def loosely_joined(self, one, other):
        """Two lumps joined, with a sum that may not be in lowest terms."""
        count, (top, bottom) = one
        other_count, (other_top, other_bottom) = other
        # Each weight of the one stands in as many things as the other counts, and the other way about.
        return (count * other_count, loose_sum((other_count * top, bottom), (count * other_top, other_bottom)))


class Chance(Scale):
    """Weights are multiplied, and the greater one stands ahead."""

    def word(self):
        """The scale's word."""
        return "chance"

    def empty(self):
        """The weight of nothing."""
        return (1, 1)

    def takes(self, weight):
        """Whether a fraction is a weight of the scale: those above nought are."""
        return weight[0] > 0

    def join(self, one, other):
        """Two weights together: their product."""
        return product_of(one, other)

    def ahead(self, one, other):
        """Whether the one weight stands ahead of the other: the greater one does."""
        return compared(one, other) > 0

    def loosely_joined(self, one, other):
        """Two lumps joined, with a sum that may not be in lowest terms."""
        count, (top, bottom) = one
        other_count, (other_top, other_bottom) = other
        return (count * other_count, (top * other_top, bottom * other_bottom))


def scale_of(word):
    """The scale of a word."""
    if word == "cost":
        return Cost()
    if word == "chance":
        return Chance()
    raise NoScale("a scale's word is cost or chance")


def lump_of(weight):
    """The lump of one weight."""
    return (1, weight)


def lumps_beside(one, other):
    """The lump of the things of two lumps side by side."""
    return (one[0] + other[0], sum_of(one[1], other[1]))


def loosely_beside(one, other):
    """Two lumps side by side, with a sum that may not be in lowest terms."""
    return (one[0] + other[0], loose_sum(one[1], other[1]))
