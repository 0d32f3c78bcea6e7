"""The refusals: the interface, brimyard/errors.py."""

import unittest

from brimyard import errors

NAMES = ["NoRatio", "NoHeap", "NoLot", "Unlike", "TooMany", "NoSize", "TooFew", "NoText", "NoRow", "NoBack"]


class ErrorsTest(unittest.TestCase):
    def test_brim_error_is_straight_under_value_error(self):
        self.assertEqual(errors.BrimError.__bases__, (ValueError,))
        self.assertIsInstance(errors.BrimError("why"), ValueError)

    def test_each_is_straight_under_brim_error(self):
        for name in NAMES:
            with self.subTest(name=name):
                made = getattr(errors, name)("why")
                self.assertEqual(getattr(errors, name).__bases__, (errors.BrimError,))
                self.assertIsInstance(made, errors.BrimError)
                self.assertIsInstance(made, ValueError)

    def test_none_is_another(self):
        for name in NAMES:
            for other in NAMES:
                with self.subTest(name=name, other=other):
                    is_other = isinstance(getattr(errors, name)("why"), getattr(errors, other))
                    self.assertEqual(is_other, name == other)

    def test_each_is_raised_and_caught_by_its_name(self):
        for name in NAMES + ["BrimError"]:
            with self.subTest(name=name):
                kind = getattr(errors, name)
                with self.assertRaises(kind):
                    raise kind("a text")


if __name__ == "__main__":
    unittest.main()
