"""Points [5] and [6]: scales, and lumps on them."""

import inspect
import unittest

from kbestwood import scales
from kbestwood.errors import NoScale
from kbestwood.fractions import compared, fraction, product_of, sum_of
from kbestwood.scales import Chance, Cost, Scale, loosely_beside, lump_of, lumps_beside, scale_of

FORTY = 10 ** 39 + 7
LONGEST = 10 ** 40 - 1
ABOVE = ((1, 1), (1, 2), (2, 3), (3, 4), (5, 1), (1, FORTY), (FORTY, LONGEST))
BELOW = ((-1, 1), (-1, 2), (-3, 4), (-5, 1), (-FORTY, LONGEST))
ALL = ABOVE + BELOW + ((0, 1),)
NO_LUMP = (0, (0, 1))


class Interface(unittest.TestCase):

    def test_functions(self):
        told = {"scale_of": ["word"], "lump_of": ["weight"], "lumps_beside": ["one", "other"]}
        for name, arguments in told.items():
            with self.subTest(name=name):
                self.assertEqual(list(inspect.signature(getattr(scales, name)).parameters), arguments)

    def test_methods(self):
        told = {"word": [], "empty": [], "takes": ["weight"], "join": ["one", "other"], "ahead": ["one", "other"],
                "lumps_joined": ["one", "other"], "together": ["weights"]}
        for made in (Scale(), Cost(), Chance()):
            for name, arguments in told.items():
                with self.subTest(made=made, name=name):
                    self.assertEqual(list(inspect.signature(getattr(made, name)).parameters), arguments)


class ScaleOf(unittest.TestCase):

    def test_right_class(self):
        self.assertIsInstance(scale_of("cost"), Cost)
        self.assertIsInstance(scale_of("chance"), Chance)

    def test_a_scale_and_not_the_other(self):
        for word, other in (("cost", Chance), ("chance", Cost)):
            with self.subTest(word=word):
                self.assertIsInstance(scale_of(word), Scale)
                self.assertNotIsInstance(scale_of(word), other)

    def test_word(self):
        for word in ("cost", "chance"):
            self.assertEqual(scale_of(word).word(), word)
        self.assertEqual(Cost().word(), "cost")
        self.assertEqual(Chance().word(), "chance")

    def test_refused(self):
        for word in ("", "Cost", "COST", "Chance", "CHANCE", "cOst", " cost", "cost ", " ", "co st", "cost\n", "\nchance",
                     "chance ", " chance", "cos", "ost", "costs", "chanc", "hance", "chances", "costchance", "cost chance",
                     "scale", "0", "weight"):
            with self.subTest(word=word):
                with self.assertRaises(NoScale) as taken:
                    scale_of(word)
                self.assertIs(type(taken.exception), NoScale)


class CostScale(unittest.TestCase):

    def setUp(self):
        self.scale = scale_of("cost")

    def test_empty(self):
        self.assertEqual(self.scale.empty(), (0, 1))

    def test_takes_any(self):
        for weight in ALL:
            self.assertIs(self.scale.takes(weight), True)

    def test_join_is_the_sum(self):
        self.assertEqual(self.scale.join((1, 2), (1, 3)), (5, 6))
        self.assertEqual(self.scale.join((1, 2), (-1, 2)), (0, 1))
        for one in ALL:
            self.assertEqual(self.scale.join(one, self.scale.empty()), one)
            for other in ALL:
                self.assertEqual(self.scale.join(one, other), sum_of(one, other))

    def test_lesser_stands_ahead(self):
        self.assertIs(self.scale.ahead((1, 3), (1, 2)), True)
        self.assertIs(self.scale.ahead((1, 2), (1, 3)), False)
        self.assertIs(self.scale.ahead((-1, 2), (-1, 3)), True)
        for one in ALL:
            self.assertIs(self.scale.ahead(one, one), False)
            for other in ALL:
                self.assertIs(self.scale.ahead(one, other), compared(one, other) == -1)

    def test_together(self):
        self.assertEqual(self.scale.together([]), (0, 1))
        for weight in ALL:
            self.assertEqual(self.scale.together([weight]), weight)
        self.assertEqual(self.scale.together([(1, 2), (1, 3), (1, 6)]), (1, 1))
        self.assertEqual(self.scale.together([(1, 2)] * 300), (150, 1))
        self.assertEqual(self.scale.together([(3, 4), (-3, 4), (0, 1), (-1, 2)]), (-1, 2))


class ChanceScale(unittest.TestCase):

    def setUp(self):
        self.scale = scale_of("chance")

    def test_empty(self):
        self.assertEqual(self.scale.empty(), (1, 1))

    def test_takes_what_is_above_nought(self):
        for weight in ABOVE:
            self.assertIs(self.scale.takes(weight), True)
        for weight in BELOW + ((0, 1),):
            self.assertIs(self.scale.takes(weight), False)

    def test_join_is_the_product(self):
        self.assertEqual(self.scale.join((2, 3), (3, 4)), (1, 2))
        for one in ABOVE:
            self.assertEqual(self.scale.join(one, self.scale.empty()), one)
            for other in ABOVE:
                self.assertEqual(self.scale.join(one, other), product_of(one, other))

    def test_greater_stands_ahead(self):
        self.assertIs(self.scale.ahead((1, 2), (1, 3)), True)
        self.assertIs(self.scale.ahead((1, 3), (1, 2)), False)
        for one in ABOVE:
            self.assertIs(self.scale.ahead(one, one), False)
            for other in ABOVE:
                self.assertIs(self.scale.ahead(one, other), compared(one, other) == 1)

    def test_together(self):
        self.assertEqual(self.scale.together([]), (1, 1))
        for weight in ABOVE:
            self.assertEqual(self.scale.together([weight]), weight)
        self.assertEqual(self.scale.together([(1, 2), (2, 3), (3, 4)]), (1, 4))
        self.assertEqual(self.scale.together([(1, 2)] * 300), (1, 2 ** 300))


class NothingIsChanged(unittest.TestCase):
    """Point [1], as far as it speaks of scales."""

    def test_together_leaves_its_list(self):
        for word in ("cost", "chance"):
            for weights in ([], [(1, 2)], [(1, 2), (3, 4), (5, 1)]):
                kept = list(weights)
                with self.subTest(word=word, weights=kept):
                    first = scale_of(word).together(weights)
                    self.assertEqual(weights, kept)
                    weights.append((7, 9))
                    self.assertEqual(scale_of(word).together(kept), first)

    def test_what_is_told_are_tuples(self):
        for word in ("cost", "chance"):
            scale = scale_of(word)
            weights = (scale.empty(), scale.join((1, 2), (1, 3)), scale.together([]), scale.together([(1, 2), (3, 1)]))
            for told in weights:
                self.assertIs(type(told), tuple)
            for lump in (lump_of((1, 2)), lumps_beside(NO_LUMP, (1, (1, 2))), scale.lumps_joined((1, (1, 2)), (2, (3, 1)))):
                self.assertIs(type(lump), tuple)
                self.assertIs(type(lump[0]), int)
                self.assertIs(type(lump[1]), tuple)


class Lumps(unittest.TestCase):

    def test_lump_of(self):
        for weight in ALL:
            self.assertEqual(lump_of(weight), (1, weight))

    def test_beside_written_out(self):
        self.assertEqual(lumps_beside((2, (1, 2)), (3, (1, 3))), (5, (5, 6)))
        self.assertEqual(lumps_beside((2, (1, 2)), (3, (-1, 2))), (5, (0, 1)))
        self.assertEqual(lumps_beside(NO_LUMP, NO_LUMP), NO_LUMP)
        self.assertEqual(lumps_beside(NO_LUMP, (3, (-1, 3))), (3, (-1, 3)))

    def test_beside_one_by_one(self):
        lump, count, added = NO_LUMP, 0, (0, 1)
        for weight in ALL:
            lump, count, added = lumps_beside(lump, lump_of(weight)), count + 1, sum_of(added, weight)
            self.assertEqual(lump, (count, added))

    def test_joined_written_out(self):
        self.assertEqual(scale_of("cost").lumps_joined((2, (1, 2)), (3, (1, 3))), (6, (13, 6)))
        self.assertEqual(scale_of("chance").lumps_joined((2, (1, 2)), (3, (1, 3))), (6, (1, 6)))
        self.assertEqual(scale_of("cost").lumps_joined((2, (1, 2)), NO_LUMP), NO_LUMP)
        self.assertEqual(scale_of("chance").lumps_joined((2, (1, 2)), NO_LUMP), NO_LUMP)

    def test_joined_with_the_lump_of_nothings_weight(self):
        for word in ("cost", "chance"):
            scale = scale_of(word)
            for lump in (NO_LUMP, (1, (2, 3)), (7, (FORTY, LONGEST))):
                with self.subTest(word=word, lump=lump):
                    self.assertEqual(scale.lumps_joined(lump, lump_of(scale.empty())), lump)
                    self.assertEqual(scale.lumps_joined(lump_of(scale.empty()), lump), lump)

    def test_joined_one_by_one(self):
        for word, weights in (("cost", ALL), ("chance", ABOVE)):
            rows = [weights[start:start + length] for start in range(len(weights)) for length in (0, 1, 2, 4)]
            scale = scale_of(word)
            for ones in rows:
                for others in rows:
                    with self.subTest(word=word, ones=ones, others=others):
                        made = [scale.join(one, other) for one in ones for other in others]
                        self.assertEqual(scale.lumps_joined(lump_of_all(ones), lump_of_all(others)), lump_of_all(made))

    def test_loosely(self):
        self.assertEqual(loosely_beside((1, (1, 6)), (2, (1, 6))), (3, (2, 6)))
        self.assertEqual(Chance().loosely_joined((2, (2, 3)), (3, (3, 4))), (6, (6, 12)))
        self.assertEqual(Cost().loosely_joined((2, (1, 6)), (3, (1, 4))), (6, (12, 12)))
        some = [(2, (1, 2)), (3, (7, 12)), (1, (-3, 4)), NO_LUMP, (FORTY, (FORTY, LONGEST))]
        for one in some:
            for other in some:
                for tell, tidy in ((loosely_beside, lumps_beside), (Cost().loosely_joined, Cost().lumps_joined),
                                   (Chance().loosely_joined, Chance().lumps_joined)):
                    count, (top, bottom) = tell(one, other)
                    self.assertEqual((count, fraction(top, bottom)), tidy(one, other))

    def test_great_counts(self):
        many = 10 ** 200
        self.assertEqual(scale_of("cost").lumps_joined((many, (1, 2)), (many, (1, 3))),
                         (many * many, fraction(5 * many, 6)))
        self.assertEqual(scale_of("chance").lumps_joined((many, (1, 2)), (many, (1, 3))), (many * many, (1, 6)))


def lump_of_all(weights):
    """The lump of some weights, counted and added one by one."""
    count, added = 0, (0, 1)
    for weight in weights:
        count, added = count + 1, sum_of(added, weight)
    return (count, added)


if __name__ == "__main__":
    unittest.main()
