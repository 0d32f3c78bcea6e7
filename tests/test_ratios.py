"""Ratios: point 5."""

import unittest
from fractions import Fraction

from brimyard.errors import NoRatio
from brimyard.ratios import (
    is_less, is_ratio, is_whole, ratio_minus, ratio_of, ratio_over, ratio_plus, ratio_times, whole_part,
)
from tests.samples import no_wholes

GREAT = 10 ** 59 + 7
GREATER = 10 ** 75 + 3
TOPS = [0, 1, -1, 2, -3, 4, 6, -12, 35, GREAT, -GREAT * 6, GREATER]
BOTTOMS = [1, -1, 2, -2, 3, 6, -9, 10, GREAT, -GREAT * 4, GREATER * 3]


def pair_of(fraction):
    return (fraction.numerator, fraction.denominator)


def fractions():
    return sorted({Fraction(top, bottom) for top in TOPS for bottom in BOTTOMS})


class WholeTest(unittest.TestCase):
    def test_whole_numbers(self):
        for number in [0, 1, -1, 7, 10 ** 12, -(10 ** 60), 10 ** 200]:
            self.assertIs(is_whole(number), True)

    def test_other_things(self):
        for thing in no_wholes() + [[], [1], (), (1,), (1, 2)]:
            with self.subTest(thing=repr(thing)):
                self.assertIs(is_whole(thing), False)


class IsRatioTest(unittest.TestCase):
    def test_ratios(self):
        for pair in [(0, 1), (1, 1), (-1, 1), (5, 1), (1, 2), (-3, 2), (8, 9), (GREAT, GREATER), (10 ** 60, 7)]:
            with self.subTest(pair=pair):
                self.assertIs(is_ratio(pair), True)

    def test_not_in_lowest_terms(self):
        for pair in [(0, 2), (0, 10 ** 60), (2, 2), (-2, 4), (6, 9), (GREAT * 3, GREATER * 3), (GREAT, GREAT)]:
            with self.subTest(pair=pair):
                self.assertIs(is_ratio(pair), False)

    def test_bottom_of_nought_or_below(self):
        for pair in [(0, 0), (1, 0), (-1, 0), (1, -1), (0, -1), (-1, -2), (1, -GREAT)]:
            with self.subTest(pair=pair):
                self.assertIs(is_ratio(pair), False)

    def test_other_lengths_and_kinds(self):
        for thing in no_wholes() + [3, (), (1,), (1, 2, 3), (1, 2, None), [1, 2], [], [(1, 2)], ((1, 2),), "12"]:
            with self.subTest(thing=repr(thing)):
                self.assertIs(is_ratio(thing), False)

    def test_other_things_in_the_tuple(self):
        for thing in no_wholes() + [[], [1], (), (1, 1)]:
            with self.subTest(thing=repr(thing)):
                self.assertIs(is_ratio((thing, 1)), False)
                self.assertIs(is_ratio((1, thing)), False)
                self.assertIs(is_ratio((thing, thing)), False)


class RatioOfTest(unittest.TestCase):
    def test_lowest_terms(self):
        for top in TOPS:
            for bottom in BOTTOMS:
                with self.subTest(top=top, bottom=bottom):
                    told = ratio_of(top, bottom)
                    self.assertEqual(told, pair_of(Fraction(top, bottom)))
                    self.assertIsInstance(told, tuple)
                    self.assertIs(is_ratio(told), True)

    def test_written_out(self):
        self.assertEqual(ratio_of(6, 4), (3, 2))
        self.assertEqual(ratio_of(-6, 4), (-3, 2))
        self.assertEqual(ratio_of(6, -4), (-3, 2))
        self.assertEqual(ratio_of(-6, -4), (3, 2))
        self.assertEqual(ratio_of(0, -8), (0, 1))
        self.assertEqual(ratio_of(0, 10 ** 60), (0, 1))
        self.assertEqual(ratio_of(10 ** 60, 10 ** 58), (100, 1))

    def test_bottom_of_nought(self):
        for top in TOPS:
            with self.assertRaises(NoRatio):
                ratio_of(top, 0)


class ReckoningTest(unittest.TestCase):
    def test_against_fractions(self):
        for one in fractions():
            for other in fractions():
                pairs = (pair_of(one), pair_of(other))
                with self.subTest(pairs=pairs):
                    self.assertEqual(ratio_plus(*pairs), pair_of(one + other))
                    self.assertEqual(ratio_minus(*pairs), pair_of(one - other))
                    self.assertEqual(ratio_times(*pairs), pair_of(one * other))
                    self.assertIs(is_less(*pairs), one < other)
                    if other != 0:
                        self.assertEqual(ratio_over(*pairs), pair_of(one / other))

    def test_written_out(self):
        self.assertEqual(ratio_plus((1, 6), (1, 3)), (1, 2))
        self.assertEqual(ratio_minus((1, 6), (2, 3)), (-1, 2))
        self.assertEqual(ratio_minus((2, 3), (2, 3)), (0, 1))
        self.assertEqual(ratio_times((-2, 3), (3, 4)), (-1, 2))
        self.assertEqual(ratio_over((1, 2), (-3, 4)), (-2, 3))
        self.assertEqual(ratio_over((0, 1), (-3, 4)), (0, 1))

    def test_over_nought(self):
        for one in fractions():
            with self.assertRaises(NoRatio):
                ratio_over(pair_of(one), (0, 1))

    def test_less_is_not_of_itself(self):
        self.assertIs(is_less((1, 2), (1, 2)), False)
        self.assertIs(is_less((1, 3), (1, 2)), True)
        self.assertIs(is_less((-1, 3), (-1, 2)), False)
        self.assertIs(is_less((GREATER, GREATER + 1), (GREATER + 1, GREATER + 2)), True)

    def test_whole_part(self):
        for ratio, told in [
            ((0, 1), 0), ((1, 2), 0), ((7, 2), 3), ((4, 1), 4), ((-1, 2), -1), ((-7, 2), -4), ((-4, 1), -4),
            ((10 ** 60 + 1, 10), 10 ** 59), ((-(10 ** 60) - 1, 10), -(10 ** 59) - 1),
        ]:
            with self.subTest(ratio=ratio):
                self.assertEqual(whole_part(ratio), told)


if __name__ == "__main__":
    unittest.main()
