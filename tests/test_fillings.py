"""Fillings: points 2, 8 and 10."""

import itertools
import unittest

from brimyard.fillings import count_of, filling_holds, lean_filling, left_of
from brimyard.heaps import heap_without
from brimyard.lots import lean_of
from tests.samples import GREATEST

HEAP = (10, ((2, 4), (3, 3), (5, 6), (12, 2)))
FILLINGS = [
    (),
    (((5, 5), 1),),
    (((5, 5), 3),),
    (((12,), 2),),
    (((2, 3, 5), 1),),
    (((2, 2, 2, 2, 3, 3, 3, 5, 5, 5, 5, 5, 5, 12, 12), 1),),
    (((2, 3, 5), 2), ((5, 5), 2), ((12,), 2)),
    (((2, 2, 2, 2, 5), 1), ((3, 3, 5), 1), ((5, 5), 2)),
    (((2, 12), 2), ((5, 5), 2)),
    (((2, 3, 5), 1), ((2, 3, 5, 5), 1)),
]


class HoldsTest(unittest.TestCase):
    def refused(self, heap, filling):
        with self.subTest(filling=filling):
            self.assertIs(filling_holds(heap, filling), False)

    def test_fillings(self):
        for filling in FILLINGS:
            with self.subTest(filling=filling):
                self.assertIs(filling_holds(HEAP, filling), True)

    def test_heap_without_things(self):
        self.assertIs(filling_holds((1, ()), ()), True)
        self.refused((1, ()), (((1,), 1),))

    def test_great_counts(self):
        heap = (10, ((5, GREATEST), (10, GREATEST)))
        self.assertIs(filling_holds(heap, (((5, 5), GREATEST // 2), ((10,), GREATEST))), True)
        self.refused(heap, (((5, 5), GREATEST // 2 + 1),))
        self.refused(heap, (((10,), GREATEST + 1),))
        self.refused(heap, (((10,), 10 ** 59),))

    def test_lots_up_to_a_hundred_things(self):
        heap = (10, ((1, GREATEST), (2, 1)))
        self.assertIs(filling_holds(heap, (((1,) * 100, 3),)), True)
        self.assertIs(filling_holds(heap, (((1,) * 99 + (2,), 1),)), True)
        self.refused(heap, (((1,) * 101, 1),))
        self.refused(heap, (((1,) * 100 + (2,), 1),))
        self.refused(heap, (((1,) * 20000, 1),))

    def test_a_lot_not_sorted(self):
        self.refused(HEAP, (((5, 3, 2), 1),))
        self.refused(HEAP, (((3, 2, 5), 1),))
        self.refused(HEAP, (((2, 3, 5), 1), ((12, 2), 1)))

    def test_a_lot_not_full(self):
        self.refused(HEAP, (((2, 2, 5), 1),))
        self.refused(HEAP, (((3, 3, 3), 1),))
        self.refused(HEAP, (((2, 3, 5), 1), ((5,), 1)))

    def test_a_lot_without_things(self):
        self.refused(HEAP, (((), 1),))
        self.refused(HEAP, (((), 1), ((5, 5), 1)))

    def test_sizes_out_of_bounds(self):
        self.refused(HEAP, (((0, 5, 5), 1),))
        self.refused(HEAP, (((-2, 12), 1),))
        self.refused(HEAP, (((GREATEST + 1,), 1),))
        self.refused(HEAP, (((10 ** 59,), 1),))

    def test_lots_not_rising(self):
        self.refused(HEAP, (((5, 5), 1), ((2, 3, 5), 1)))
        self.refused(HEAP, (((12,), 1), ((5, 5), 1)))
        self.refused(HEAP, (((2, 3, 5), 1), ((12,), 1), ((5, 5), 1)))

    def test_a_lot_twice(self):
        self.refused(HEAP, (((5, 5), 1), ((5, 5), 1)))
        self.refused(HEAP, (((5, 5), 1), ((5, 5), 2)))
        self.refused(HEAP, (((5, 5), 1), ((12,), 1), ((12,), 1)))

    def test_times_of_nought_or_below(self):
        for times in [0, -1, -(10 ** 59)]:
            self.refused(HEAP, (((5, 5), times),))
            self.refused(HEAP, (((5, 5), 1), ((12,), times)))
            self.refused(HEAP, (((5, 5), times), ((12,), 1)))
        self.refused(HEAP, (((2, 12), -1), ((12,), 2)))

    def test_more_things_than_the_heap_has(self):
        self.refused(HEAP, (((5, 5), 4),))
        self.refused(HEAP, (((12,), 3),))
        self.refused(HEAP, (((12, 12, 12), 1),))
        self.refused(HEAP, (((2, 3, 5), 1), ((5, 5), 3)))
        self.refused(HEAP, (((2, 3, 5), 4),))

    def test_a_size_that_the_heap_has_not(self):
        self.refused(HEAP, (((4, 12), 1),))
        self.refused(HEAP, (((11,), 1),))
        self.refused(HEAP, (((5, 5), 1), ((13,), 1)))
        self.refused(HEAP, (((1, 12), 1),))

    def test_need_counts(self):
        self.refused((11, HEAP[1]), (((5, 5), 1),))
        self.assertIs(filling_holds((9, HEAP[1]), (((2, 2, 5), 1),)), True)


class CountAndLeftTest(unittest.TestCase):
    def test_count(self):
        self.assertEqual([count_of(filling) for filling in FILLINGS], [0, 1, 3, 2, 1, 1, 6, 4, 4, 2])
        self.assertEqual(count_of((((5, 5), GREATEST), ((10,), GREATEST))), 2 * GREATEST)

    def test_left(self):
        self.assertEqual(left_of(HEAP, ()), HEAP)
        self.assertEqual(left_of(HEAP, (((5, 5), 2),)), (10, ((2, 4), (3, 3), (5, 2), (12, 2))))
        heap = (10, ((5, GREATEST), (10, 3)))
        self.assertEqual(left_of(heap, (((5, 5), 4), ((10,), 1))), (10, ((5, GREATEST - 8), (10, 2))))

    def test_a_size_gone(self):
        self.assertEqual(left_of(HEAP, (((5, 5), 3),)), (10, ((2, 4), (3, 3), (12, 2))))
        self.assertEqual(left_of(HEAP, (((2, 12), 2), ((5, 5), 3))), (10, ((2, 2), (3, 3))))
        self.assertEqual(left_of((10, ((5, GREATEST),)), (((5, 5), GREATEST // 2),)), (10, ()))
        self.assertEqual(left_of(HEAP, FILLINGS[5]), (10, ()))
        self.assertEqual(left_of((1, ()), ()), (1, ()))

    def test_left_lot_by_lot(self):
        for filling in FILLINGS:
            left = HEAP
            for lot, times in filling:
                for again in range(times):
                    left = heap_without(left, lot)
            with self.subTest(filling=filling):
                self.assertEqual(left_of(HEAP, filling), left)


class LeanFillingTest(unittest.TestCase):
    def test_written_out(self):
        self.assertEqual(lean_filling(HEAP, ()), ())
        self.assertEqual(lean_filling(HEAP, (((2, 3, 5), 2), ((12,), 1))), (((2, 3, 5), 2), ((12,), 1)))
        self.assertEqual(lean_filling(HEAP, (((2, 12), 2), ((5, 5), 2))), (((5, 5), 2), ((12,), 2)))

    def test_alike_lots_are_put_together(self):
        filling = (((2, 3, 5, 5), 1), ((3, 5, 5), 1), ((5, 5), 1), ((5, 12), 1), ((12,), 1))
        self.assertEqual(lean_filling((10, ((2, 9), (3, 9), (5, 9), (12, 9))), filling), (((5, 5), 3), ((12,), 2)))
        great = (((1, 5, 5), GREATEST // 4), ((5, 5), GREATEST // 4))
        self.assertEqual(lean_filling((10, ((1, GREATEST), (5, GREATEST))), great), (((5, 5), GREATEST // 2),))

    def test_rising_again(self):
        filling = (((2, 12), 1), ((3, 3, 3, 5), 1), ((5, 5), 1))
        self.assertEqual(lean_filling(HEAP, filling), (((3, 3, 5), 1), ((5, 5), 1), ((12,), 1)))

    def test_lean_of_each_lot_and_the_same_count(self):
        lots = [(2, 3, 5), (2, 3, 5, 5), (2, 12), (3, 12), (5, 5), (5, 5, 12), (12, 12)]
        heap = (10, ((2, 50), (3, 50), (5, 50), (12, 50)))
        for number in range(1, 5):
            for chosen in itertools.combinations(lots, number):
                filling = tuple([(lot, 1 + place) for place, lot in enumerate(chosen)])
                told = lean_filling(heap, filling)
                self.assertIs(filling_holds(heap, told), True)
                self.assertEqual(count_of(told), count_of(filling))
                self.assertEqual({lot for lot, times in told}, {lean_of(10, lot) for lot in chosen})

    def test_what_is_handed_in_stays(self):
        filling = (((2, 12), 2), ((5, 5), 2))
        lean_filling(HEAP, filling)
        left_of(HEAP, filling)
        self.assertEqual(filling, (((2, 12), 2), ((5, 5), 2)))
        self.assertEqual(HEAP, (10, ((2, 4), (3, 3), (5, 6), (12, 2))))


if __name__ == "__main__":
    unittest.main()
