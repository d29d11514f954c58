"""Point [2]: the classes of refusals."""

import unittest

from kbestwood import errors

NAMES = ("NoLine", "NoScale", "NoRule", "NoWeight", "Twice", "NoTitle",
         "NoKind", "Ring", "NoNet", "TooMany", "NoTree")


class ErrorClasses(unittest.TestCase):

    def test_wood_error_stands_under_value_error_alone(self):
        self.assertEqual(errors.WoodError.__bases__, (ValueError,))

    def test_each_stands_under_wood_error_alone(self):
        for name in NAMES:
            with self.subTest(name=name):
                self.assertEqual(getattr(errors, name).__bases__, (errors.WoodError,))

    def test_each_is_taken_as_wood_error_and_as_value_error(self):
        for name in NAMES:
            for taken in (errors.WoodError, ValueError):
                with self.subTest(name=name, taken=taken):
                    with self.assertRaises(taken):
                        raise getattr(errors, name)("words")

    def test_none_is_under_another(self):
        for name in NAMES:
            for other in NAMES:
                if name != other:
                    with self.subTest(name=name, other=other):
                        self.assertFalse(issubclass(getattr(errors, name), getattr(errors, other)))

    def test_words_are_kept(self):
        for name in NAMES:
            self.assertEqual(str(getattr(errors, name)("some words")), "some words")


if __name__ == "__main__":
    unittest.main()
