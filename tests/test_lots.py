"""Lots: point 7."""

import itertools
import unittest

from brimyard.errors import NoLot
from brimyard.lots import is_full, is_lean, is_lot, lean_of
from tests.samples import GREATEST, no_sizes, no_wholes


def small_lots():
    for number in range(1, 5):
        yield from itertools.combinations_with_replacement(range(1, 7), number)


class IsLotTest(unittest.TestCase):
    def test_lots(self):
        for lot in [
            (1,), (GREATEST,), (1, GREATEST), (3, 3), (2, 3, 3, 9), (1,) * 100, (1,) * 99 + (GREATEST,),
            tuple(range(1, 101)),
        ]:
            with self.subTest(lot=lot):
                self.assertIs(is_lot(lot), True)

    def test_not_sorted(self):
        for lot in [(3, 2), (1, 3, 2), (2, 1, 3), (1,) * 50 + (3, 2) + (4,) * 40]:
            with self.subTest(lot=lot):
                self.assertIs(is_lot(lot), False)

    def test_none_and_too_many(self):
        for lot in [(), (1,) * 101, tuple(range(1, 102)), (1,) * 5000]:
            self.assertIs(is_lot(lot), False)

    def test_what_is_no_size(self):
        for thing in no_sizes():
            for lot in [(thing,), (1, thing), (thing, GREATEST), (1, thing, 3), (1, 1, 1, thing)]:
                with self.subTest(lot=repr(lot)):
                    self.assertIs(is_lot(lot), False)

    def test_other_kinds(self):
        for thing in no_wholes() + [0, 5, [], [1], [1, 2], [(1, 2)], ((1, 2),), ([1, 2],)]:
            with self.subTest(thing=repr(thing)):
                self.assertIs(is_lot(thing), False)


class FullAndLeanTest(unittest.TestCase):
    def test_full(self):
        self.assertIs(is_full(10, (3, 7)), True)
        self.assertIs(is_full(9, (3, 7)), True)
        self.assertIs(is_full(11, (3, 7)), False)
        self.assertIs(is_full(GREATEST, (GREATEST,)), True)
        self.assertIs(is_full(GREATEST, (GREATEST - 1,)), False)
        self.assertIs(is_full(1, (1,)), True)
        self.assertIs(is_full(100, (1,) * 100), True)
        self.assertIs(is_full(101, (1,) * 100), False)

    def test_lean(self):
        self.assertIs(is_lean(10, (3, 7)), True)
        self.assertIs(is_lean(8, (3, 7)), True)
        self.assertIs(is_lean(7, (3, 7)), False)
        self.assertIs(is_lean(6, (3, 7)), False)
        self.assertIs(is_lean(11, (3, 7)), False)
        self.assertIs(is_lean(1, (GREATEST,)), True)
        self.assertIs(is_lean(GREATEST, (GREATEST,)), True)
        self.assertIs(is_lean(100, (1,) * 100), True)
        self.assertIs(is_lean(99, (1,) * 100), False)

    def test_lean_is_not_full_without_any_thing(self):
        for need in range(1, 26):
            for lot in small_lots():
                rests = [sum(lot) - size for size in lot]
                wanted = sum(lot) >= need and max(rests) < need
                self.assertIs(is_lean(need, lot), wanted, (need, lot))


class LeanOfTest(unittest.TestCase):
    def test_written_out(self):
        self.assertEqual(lean_of(10, (3, 7)), (3, 7))
        self.assertEqual(lean_of(7, (3, 7)), (7,))
        self.assertEqual(lean_of(10, (1, 2, 3, 7)), (3, 7))
        self.assertEqual(lean_of(11, (1, 2, 3, 7)), (2, 3, 7))
        self.assertEqual(lean_of(10, (4, 4, 4, 4)), (4, 4, 4))
        self.assertEqual(lean_of(1, (1,) * 100), (1,))
        self.assertEqual(lean_of(40, (1,) * 100), (1,) * 40)
        self.assertEqual(lean_of(GREATEST, (1, GREATEST)), (GREATEST,))

    def test_is_lean_and_the_greatest_things_of_the_lot(self):
        for need in range(1, 26):
            for lot in small_lots():
                if sum(lot) >= need:
                    lean = lean_of(need, lot)
                    self.assertEqual(lean, lot[len(lot) - len(lean):])
                    self.assertIs(is_lot(lean), True)
                    self.assertIs(is_lean(need, lean), True)

    def test_not_full(self):
        for need, lot in [(11, (3, 7)), (2, (1,)), (GREATEST, (GREATEST - 1,)), (101, (1,) * 100)]:
            with self.subTest(need=need), self.assertRaises(NoLot):
                lean_of(need, lot)


if __name__ == "__main__":
    unittest.main()
