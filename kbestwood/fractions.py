"""Exact fractions: tuples (top, bottom) in lowest terms, bottom 1 or more."""

from kbestwood.errors import NoLine

FIGURES = "0123456789"
MOST_FIGURES = 40


def common_divisor(one, other):
    """The greatest common divisor of two whole numbers, not both nought."""
    while other != 0:
        one, other = other, one % other
    return abs(one)


def fraction(top, bottom):
    """The fraction top / bottom; bottom is any whole number but nought."""
    divisor = common_divisor(top, bottom)
    if bottom < 0:
        # The sign goes to the top, so that equal fractions are equal tuples.
        divisor = -divisor
    return (top // divisor, bottom // divisor)


def sum_of(one, other):
    """The sum of two fractions."""
    # Only what the bottoms share can have a divisor in common with the top, and to find it of less figures is faster.
    shared = common_divisor(one[1], other[1])
    top = one[0] * (other[1] // shared) + other[0] * (one[1] // shared)
    divisor = common_divisor(top, shared)
    return (top // divisor, one[1] // shared * (other[1] // divisor))


def loose_sum(one, other):
    """The sum of two fractions, over the least bottom that is a multiple of both; maybe not in lowest terms."""
    shared = common_divisor(one[1], other[1])
    return (one[0] * (other[1] // shared) + other[0] * (one[1] // shared), one[1] // shared * other[1])


def lowest(one, bases):
    """A loose fraction in lowest terms, where each prime divisor of its bottom is also one of some base."""
    # Bases of few figures each are much faster to go through than one search for a divisor of two long numbers.
    top, bottom = one
    for base in bases:
        divisor = common_divisor(bottom, common_divisor(top, base))
        while divisor > 1:
            top, bottom = top // divisor, bottom // divisor
            divisor = common_divisor(bottom, common_divisor(top, divisor))
    return (top, bottom)


def product_of(one, other):
    """The product of two fractions."""
    # A top can share a divisor with the other one's bottom alone, and to find it of less figures is faster.
    left = common_divisor(one[0], other[1])
    right = common_divisor(other[0], one[1])
    return (one[0] // left * (other[0] // right), one[1] // right * (other[1] // left))


def compared(one, other):
    """-1, 0 or 1: the one is less than, the same as, or greater than the other."""
    left = one[0] * other[1]
    right = other[0] * one[1]
    if left < right:
        return -1
    if left > right:
        return 1
    return 0


def fraction_text(one):
    """A fraction as it is written: 3, or -3/4."""
    top, bottom = one
    if bottom == 1:
        return str(top)
    return f"{top}/{bottom}"


def is_figures(text):
    """Whether a text is one to 40 figures."""
    # int() would also take blanks, signs, underscores and figures of other scripts.
    return 1 <= len(text) <= MOST_FIGURES and all([sign in FIGURES for sign in text])


def is_bottom(text):
    """Whether a text may stand beneath the stroke."""
    return is_figures(text) and text[0] != "0"


def is_top(text):
    """Whether a text may stand above the stroke."""
    return text == "0" or is_bottom(text.removeprefix("-"))


def read_fraction(text):
    """The fraction that a text writes, also one that is not in lowest terms."""
    top, stroke, bottom = text.partition("/")
    if stroke == "":
        bottom = "1"
    if not is_top(top) or not is_bottom(bottom):
        raise NoLine("this is not how a fraction is written")
    return fraction(int(top), int(bottom))
