"""Lean lots: point 9."""

import itertools
import unittest

from brimyard.errors import TooMany
from brimyard.leans import greatest_lots, lean_lots
from tests.samples import GREATEST
from tests.searches import sought_lots


def small_heaps():
    for need in [1, 2, 5, 7, 10, 13]:
        for sizes in itertools.combinations([1, 2, 3, 5, 8, 13], 3):
            for manies in itertools.product([1, 3, 4], repeat=3):
                yield (need, tuple(zip(sizes, manies)))
    yield (30, ((2, 2), (3, 1), (5, 2), (7, 1), (8, 2), (11, 1), (13, 1), (30, 2)))
    yield (9, tuple([(size, 1) for size in range(1, 9)]))


class LeanLotsTest(unittest.TestCase):
    def test_against_every_choice(self):
        for heap in small_heaps():
            with self.subTest(heap=heap):
                told = lean_lots(heap)
                self.assertIsInstance(told, list)
                self.assertEqual(told, sought_lots(heap))

    def test_written_out(self):
        self.assertEqual(lean_lots((10, ((2, 1), (3, 2), (7, 1)))), [(3, 7)])
        self.assertEqual(lean_lots((6, ((2, 3), (5, 2)))), [(2, 2, 2), (2, 5), (5, 5)])

    def test_without_things_or_too_little(self):
        self.assertEqual(lean_lots((1, ())), [])
        self.assertEqual(lean_lots((10, ((2, 2), (5, 1)))), [])
        self.assertEqual(lean_lots((GREATEST, tuple([(size, 10 ** 10) for size in range(1, 9)]))), [])
        self.assertEqual(lean_lots((GREATEST, ((1, GREATEST - 1),))), [])

    def test_just_enough(self):
        self.assertEqual(lean_lots((9, ((2, 2), (5, 1)))), [(2, 2, 5)])

    def test_sizes_at_and_above_the_need(self):
        self.assertEqual(lean_lots((5, ((5, 3), (6, 1), (GREATEST, GREATEST)))), [(5,), (6,), (GREATEST,)])
        self.assertEqual(lean_lots((5, ((4, 3), (5, 1)))), [(4, 4), (5,)])

    def test_great_counts(self):
        self.assertEqual(lean_lots((6, ((3, GREATEST), (4, GREATEST)))), [(3, 3), (3, 4), (4, 4)])
        self.assertEqual(
            lean_lots((GREATEST, ((GREATEST // 2, GREATEST), (GREATEST - 1, GREATEST)))),
            [(GREATEST // 2, GREATEST // 2), (GREATEST // 2, GREATEST - 1), (GREATEST - 1, GREATEST - 1)],
        )

    def test_what_is_told_is_the_askers_own(self):
        heap = (6, ((2, 3), (5, 2)))
        told = lean_lots(heap)
        told.clear()
        self.assertEqual(lean_lots(heap), [(2, 2, 2), (2, 5), (5, 5)])
        self.assertEqual(heap, (6, ((2, 3), (5, 2))))


class GreatestLotsTest(unittest.TestCase):
    def test_against_lean_lots(self):
        for heap in small_heaps():
            greatest = heap[1][-1][0]
            with self.subTest(heap=heap):
                told = greatest_lots(heap)
                self.assertIsInstance(told, list)
                self.assertEqual(told, [lot for lot in sought_lots(heap) if greatest in lot])

    def test_written_out(self):
        self.assertEqual(greatest_lots((6, ((2, 3), (5, 2)))), [(2, 5), (5, 5)])
        self.assertEqual(greatest_lots((6, ())), [])
        self.assertEqual(greatest_lots((6, ((5, 1),))), [])

    def test_what_is_told_is_the_askers_own(self):
        heap = (6, ((2, 3), (5, 2)))
        greatest_lots(heap).append((1,))
        self.assertEqual(greatest_lots(heap), [(2, 5), (5, 5)])


class TooManyTest(unittest.TestCase):
    # Each choice of 23 things of these three sizes is a lean lot, and no other one is: there are just 300.
    THREE = ((100, GREATEST), (102, GREATEST), (104, GREATEST))

    def refused(self, heap):
        for function in [lean_lots, greatest_lots]:
            with self.subTest(function=function.__name__, heap=heap), self.assertRaises(TooMany):
                function(heap)

    def test_just_three_hundred(self):
        wanted = list(itertools.combinations_with_replacement([100, 102, 104], 23))
        self.assertEqual(len(wanted), 300)
        self.assertEqual(lean_lots((2300, self.THREE)), wanted)
        self.assertEqual(greatest_lots((2300, self.THREE)), [lot for lot in wanted if 104 in lot])
        self.assertEqual(len(lean_lots((2300, ((100, 22),) + self.THREE[1:] + ((5000, 1),)))), 300)

    def test_more_than_three_hundred(self):
        self.refused((2300, self.THREE + ((5000, 1),)))
        self.refused((2300, self.THREE + ((2300, GREATEST),)))
        self.refused((2300, ((1, 100),) + self.THREE))

    def test_very_many_are_refused_soon(self):
        for least in [10 ** 11, GREATEST // 59]:
            for many in [9, GREATEST]:
                self.refused((GREATEST, tuple([(least + place, many) for place in range(8)])))

    def test_just_sixty_things(self):
        self.assertEqual(lean_lots((60, ((1, GREATEST),))), [(1,) * 60])
        self.assertEqual(greatest_lots((60, ((1, 60),))), [(1,) * 60])
        self.assertEqual(lean_lots((61, ((1, 60), (2, 1)))), [(1,) * 59 + (2,)])
        self.assertEqual(lean_lots((GREATEST, ((1, 59), (GREATEST - 59, 1)))), [(1,) * 59 + (GREATEST - 59,)])

    def test_more_than_sixty_things(self):
        self.refused((61, ((1, 61),)))
        self.refused((61, ((1, 61), (2, 1))))
        self.refused((62, ((1, 60), (2, 1))))
        self.refused((62, ((1, 60), (2, 1), (61, 1))))
        self.refused((200, ((1, 200),)))
        self.refused((GREATEST, ((1, GREATEST),)))
        self.refused((GREATEST, ((1, GREATEST), (GREATEST, 1))))
        self.refused((GREATEST, tuple([(size, GREATEST) for size in range(1, 9)])))


if __name__ == "__main__":
    unittest.main()
