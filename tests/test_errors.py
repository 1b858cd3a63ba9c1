"""Tests of 0.4 and of the row `errors`."""

import unittest

from pairwebs import errors

PLAIN = [
    "NoWeb", "NoPlace", "NoPlaces", "NoTie", "NoNumber", "NoPairing", "NoWay",
    "NoRing", "NoArrows", "NoSides", "NoText", "NoLine", "NoDeed",
]


class ErrorClasses(unittest.TestCase):
    def test_pair_error_stands_under_value_error(self):
        self.assertEqual(errors.PairError.__bases__, (ValueError,))

    def test_each_class_stands_straight_under_pair_error(self):
        for name in PLAIN + ["TooGreat"]:
            with self.subTest(name=name):
                self.assertEqual(getattr(errors, name).__bases__, (errors.PairError,))
                self.assertEqual(getattr(errors, name).__name__, name)

    def test_no_class_stands_under_another_one(self):
        classes = [getattr(errors, name) for name in PLAIN + ["TooGreat"]]
        for one in classes:
            under = [other for other in classes if issubclass(one, other)]
            self.assertEqual(under, [one])

    def test_each_plain_class_is_caught_as_pair_error_and_as_value_error(self):
        for name in PLAIN:
            for caught in (errors.PairError, ValueError):
                with self.subTest(name=name), self.assertRaises(caught):
                    raise getattr(errors, name)("why")

    def test_too_great_keeps_its_two_fields_in_their_order(self):
        for many, most in ((9, 8), (16, 8), (11, 10), (7, 6)):
            error = errors.TooGreat(many, most)
            self.assertEqual((error.many, error.most), (many, most))

    def test_too_great_is_caught_with_its_fields(self):
        with self.assertRaises(errors.PairError) as caught:
            raise errors.TooGreat(12, 10)
        self.assertEqual((caught.exception.many, caught.exception.most), (12, 10))


if __name__ == "__main__":
    unittest.main()
