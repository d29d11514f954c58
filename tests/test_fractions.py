"""Point [4]: fractions, how they are reckoned with, written and read."""

import fractions as oracle
import inspect
import math
import unittest

from kbestwood import fractions
from kbestwood.errors import NoLine, NoScale, WoodError
from kbestwood.fractions import (compared, fraction, fraction_text, loose_sum, lowest, product_of, read_fraction,
                                 sum_of)

FORTY = 10 ** 39 + 7
LONGEST = 10 ** 40 - 1
WHOLE = tuple(range(-13, 14)) + (30, -36, 97, FORTY, -FORTY, LONGEST, -LONGEST, 9 * FORTY)
SOME = tuple(fraction(top, bottom) for top in (0, 1, -1, 2, -3, 7, 12, FORTY, -LONGEST)
             for bottom in (1, 2, 3, 4, 9, 12, FORTY, LONGEST))


def due(one):
    """The fraction of the program's form that Python's own fraction stands for."""
    return (one.numerator, one.denominator)


def own(one):
    """Python's own fraction for one of the program's."""
    return oracle.Fraction(one[0], one[1])


class FractionCase(unittest.TestCase):

    def assert_is_fraction(self, one):
        """A tuple of two whole numbers in lowest terms, bottom 1 or more."""
        self.assertIs(type(one), tuple)
        self.assertEqual([type(part) for part in one], [int, int])
        self.assertGreaterEqual(one[1], 1)
        self.assertEqual(math.gcd(one[0], one[1]), 1)


class Interface(unittest.TestCase):

    def test_names_and_arguments(self):
        told = {"fraction": ["top", "bottom"], "sum_of": ["one", "other"], "product_of": ["one", "other"],
                "compared": ["one", "other"], "fraction_text": ["one"], "read_fraction": ["text"]}
        for name, arguments in told.items():
            with self.subTest(name=name):
                signature = inspect.signature(getattr(fractions, name))
                self.assertEqual(list(signature.parameters), arguments)


class MakingFractions(FractionCase):

    def test_written_out(self):
        for top, bottom, told in ((6, 8, (3, 4)), (-6, 8, (-3, 4)), (6, -8, (-3, 4)), (-6, -8, (3, 4)),
                                  (3, 4, (3, 4)), (12, 4, (3, 1)), (4, 12, (1, 3)), (-12, 4, (-3, 1)),
                                  (4, -12, (-1, 3)), (5, 5, (1, 1)), (5, -5, (-1, 1)), (7, 1, (7, 1)), (7, -1, (-7, 1))):
            with self.subTest(top=top, bottom=bottom):
                self.assertEqual(fraction(top, bottom), told)

    def test_nought_has_one_form(self):
        for bottom in (1, -1, 5, -5, FORTY, -FORTY):
            with self.subTest(bottom=bottom):
                self.assertEqual(fraction(0, bottom), (0, 1))

    def test_forty_figures(self):
        self.assertEqual(fraction(6 * 10 ** 39, 8 * 10 ** 39), (3, 4))
        self.assertEqual(fraction(-FORTY, FORTY), (-1, 1))
        self.assertEqual(fraction(LONGEST, LONGEST - 1), (LONGEST, LONGEST - 1))
        self.assertEqual(fraction(LONGEST, 1 - LONGEST), (-LONGEST, LONGEST - 1))

    def test_against_python(self):
        for top in WHOLE:
            for bottom in WHOLE:
                if bottom != 0:
                    with self.subTest(top=top, bottom=bottom):
                        told = fraction(top, bottom)
                        self.assert_is_fraction(told)
                        self.assertEqual(told, due(oracle.Fraction(top, bottom)))


class Reckoning(FractionCase):

    def test_sums_written_out(self):
        for one, other, told in (((1, 2), (1, 3), (5, 6)), ((1, 6), (1, 3), (1, 2)), ((1, 2), (-1, 2), (0, 1)),
                                 ((0, 1), (-3, 4), (-3, 4)), ((0, 1), (0, 1), (0, 1)), ((3, 1), (4, 1), (7, 1)),
                                 ((-1, 4), (-1, 4), (-1, 2)), ((-5, 6), (1, 3), (-1, 2))):
            with self.subTest(one=one, other=other):
                self.assertEqual(sum_of(one, other), told)

    def test_products_written_out(self):
        for one, other, told in (((2, 3), (3, 4), (1, 2)), ((-2, 3), (3, 2), (-1, 1)), ((-1, 2), (-1, 2), (1, 4)),
                                 ((0, 1), (-3, 4), (0, 1)), ((1, 1), (-3, 4), (-3, 4)), ((3, 1), (4, 1), (12, 1))):
            with self.subTest(one=one, other=other):
                self.assertEqual(product_of(one, other), told)

    def test_sums_and_products_against_python(self):
        for one in SOME:
            for other in SOME:
                with self.subTest(one=one, other=other):
                    added = sum_of(one, other)
                    self.assert_is_fraction(added)
                    self.assertEqual(added, due(own(one) + own(other)))
                    multiplied = product_of(one, other)
                    self.assert_is_fraction(multiplied)
                    self.assertEqual(multiplied, due(own(one) * own(other)))

    def test_told_fractions_are_taken_again_far_beyond_forty_figures(self):
        added, multiplied = (0, 1), (1, 1)
        added_due, multiplied_due = oracle.Fraction(0), oracle.Fraction(1)
        for step in range(60):
            one = fraction(FORTY + step, LONGEST - step)
            added, multiplied = sum_of(added, one), product_of(multiplied, one)
            added_due, multiplied_due = added_due + own(one), multiplied_due * own(one)
        self.assertEqual(added, due(added_due))
        self.assertEqual(multiplied, due(multiplied_due))
        self.assertGreater(len(str(added[1])), 1000)


class Loosely(FractionCase):
    """Sums that may not be in lowest terms, and how they are brought there."""

    def test_sums(self):
        self.assertEqual(loose_sum((1, 6), (1, 6)), (2, 6))
        self.assertEqual(loose_sum((1, 4), (1, 6)), (5, 12))
        self.assertEqual(loose_sum((1, 2), (-1, 2)), (0, 2))
        self.assertEqual(loose_sum((2, 4), (3, 6)), (12, 12))
        for one in SOME:
            for other in SOME:
                top, bottom = loose_sum(one, other)
                self.assertEqual(fraction(top, bottom), sum_of(one, other))
                self.assertEqual(bottom, math.lcm(one[1], other[1]))

    def test_lowest(self):
        self.assertEqual(lowest((12, 8), [2]), (3, 2))
        self.assertEqual(lowest((0, 36), [6]), (0, 1))
        self.assertEqual(lowest((0, 36), [2, 3]), (0, 1))
        self.assertEqual(lowest((-30, 36), [4, 9]), (-5, 6))
        self.assertEqual(lowest((7, 1), []), (7, 1))
        self.assertEqual(lowest((2 ** 300, 2 ** 301), [1, 2]), (1, 2))
        self.assertEqual(lowest((6 ** 40, 10 ** 39), [10, 7]), (6 * 3 ** 39, 5 ** 39))

    def test_lowest_against_python(self):
        for bases in ([2, 3, 5], [6, 10, 15], [30], [4, 27, 25, 12], [LONGEST, 2, 15], [FORTY, 6, 5]):
            bottoms = [one ** power * other for one in bases for other in bases for power in (0, 1, 3)]
            for bottom in bottoms:
                for top in [0, 1, -1, 7, 60, -90, 2 ** 9 * 3 ** 5, 15 ** 7, LONGEST, -FORTY ** 2] + bottoms:
                    self.assertEqual(lowest((top, bottom), bases), due(oracle.Fraction(top, bottom)))


class Comparing(unittest.TestCase):

    def test_written_out(self):
        for one, other in (((1, 3), (1, 2)), ((-1, 2), (-1, 3)), ((-1, 2), (0, 1)), ((0, 1), (1, 9)), ((2, 3), (3, 4)),
                           ((-7, 1), (1, 7)), ((LONGEST - 2, LONGEST - 1), (LONGEST - 1, LONGEST)),
                           ((3, 1), (4, 1)), ((99, 100), (1, 1))):
            with self.subTest(one=one, other=other):
                self.assertEqual(compared(one, other), -1)
                self.assertEqual(compared(other, one), 1)
                self.assertEqual(compared(one, one), 0)

    def test_against_python_and_always_a_whole_number(self):
        for one in SOME:
            for other in SOME:
                with self.subTest(one=one, other=other):
                    told = compared(one, other)
                    self.assertIs(type(told), int)
                    self.assertEqual(told, (own(one) > own(other)) - (own(one) < own(other)))


class Writing(unittest.TestCase):

    def test_written_out(self):
        for one, text in (((3, 1), "3"), ((-3, 4), "-3/4"), ((0, 1), "0"), ((3, 4), "3/4"), ((-3, 1), "-3"),
                          ((1, 10), "1/10"), ((LONGEST, LONGEST - 1), "9" * 40 + "/" + "9" * 39 + "8"),
                          ((-LONGEST, 1), "-" + "9" * 40), ((1, FORTY), "1/1" + "0" * 38 + "7")):
            with self.subTest(text=text):
                self.assertEqual(fraction_text(one), text)

    def test_read_back(self):
        for one in SOME:
            with self.subTest(one=one):
                self.assertEqual(read_fraction(fraction_text(one)), one)

    def test_four_thousand_figures(self):
        self.assertEqual(fraction_text((10 ** 4000 - 1, 10 ** 3999)), "9" * 4000 + "/1" + "0" * 3999)


class Reading(FractionCase):

    def test_taken(self):
        for text, told in (("6/8", (3, 4)), ("0/5", (0, 1)), ("0", (0, 1)), ("3", (3, 1)), ("-3", (-3, 1)),
                           ("-6/8", (-3, 4)), ("0/1", (0, 1)), ("3/1", (3, 1)), ("-12/4", (-3, 1)), ("10", (10, 1)),
                           ("-10/100", (-1, 10)), ("9876543210/1", (9876543210, 1)), ("1/1234567890", (1, 1234567890))):
            with self.subTest(text=text):
                self.assert_is_fraction(read_fraction(text))
                self.assertEqual(read_fraction(text), told)

    def test_forty_figures_taken(self):
        above, beneath = "9" * 40, "1" + "0" * 39
        self.assertEqual(read_fraction(above), (int(above), 1))
        self.assertEqual(read_fraction("-" + above), (-int(above), 1))
        self.assertEqual(read_fraction(above + "/" + beneath), (int(above), int(beneath)))
        self.assertEqual(read_fraction("-" + above + "/" + beneath), (-int(above), int(beneath)))
        self.assertEqual(read_fraction("0/" + above), (0, 1))

    def test_refused(self):
        many = "1" * 41
        wrong = ["", "-0", "-0/5", "-0/1", "00", "03", "-03", "00/5", "03/4", "0/0", "3/0", "3/04", "3/00", "3/", "0/",
                 "/", "/4", "-/4", "-", "--3", "+3", "-+3", "3-", "3/-4", "3/+4", "-3/-4", "3/4/5", "3//4", "3/4/",
                 "/3/4", " ", " 3", "3 ", "- 3", "3 /4", "3/ 4", " 3/4", "3/4 ", "1 2", "3/1 2", "\n", "3\n", "\n3",
                 "3/4\n", "3/\n4", "3\n/4", "3\t", "a", "3a", "a3", "3/a", "x/4", "1e3", "0x1", "1_0", "3/1_0", "3.5",
                 "3,5", "3:4", "(3, 4)", "\u0663", "\u00b2", "3/\u0664",
                 many, "-" + many, many + "/3", "3/" + many, many + "/" + many, "0" * 41, "0" + "1" * 40, "1" * 6000]
        for text in wrong:
            with self.subTest(text=text):
                with self.assertRaises(NoLine):
                    read_fraction(text)

    def test_refused_by_no_other_class(self):
        with self.assertRaises(WoodError) as taken:
            read_fraction("3/0")
        self.assertNotIsInstance(taken.exception, NoScale)
        self.assertIs(type(taken.exception), NoLine)

    def test_every_short_text(self):
        """All texts of up to five signs out of a few, against the form told as a pattern."""
        texts = [""]
        for length in range(5):
            texts = texts + [text + sign for text in texts if len(text) == length for sign in "0 3-/"]
        for text in texts:
            with self.subTest(text=text):
                self.assertEqual(is_read(text), is_told(text))


def is_read(text):
    try:
        read_fraction(text)
    except NoLine:
        return False
    return True


def is_told(text):
    """The form that [4] tells, sign by sign, over the signs that test_every_short_text uses."""
    top, stroke, bottom = text.partition("/")
    if top != "0":
        top = top[1:] if top[:1] == "-" else top
        if top[:1] != "3" or set(top) - {"0", "3"}:
            return False
    return not stroke or (bottom[:1] == "3" and not set(bottom) - {"0", "3"})


if __name__ == "__main__":
    unittest.main()
