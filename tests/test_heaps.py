"""Heaps: points 2, 6 and 8."""

import itertools
import unittest

from brimyard.errors import NoHeap, NoLot, TooMany, Unlike
from brimyard.heaps import heap_without, is_heap, made_heap, put_beside, things_of, total_of
from tests.samples import GREATEST, no_sizes, no_wholes


def heap_of_kinds(number):
    return (10, tuple([(size, size + 1) for size in range(1, number + 1)]))


class IsHeapTest(unittest.TestCase):
    def test_none_to_eight_kinds(self):
        for number in range(9):
            self.assertIs(is_heap(heap_of_kinds(number)), True)

    def test_more_than_eight_kinds(self):
        for number in [9, 10, 100]:
            self.assertIs(is_heap(heap_of_kinds(number)), False)

    def test_at_the_bounds(self):
        for need, size, many in itertools.product([1, GREATEST], repeat=3):
            self.assertIs(is_heap((need, ((size, many),))), True)
        self.assertIs(is_heap((1, ((1, GREATEST), (GREATEST, 1)))), True)

    def test_what_is_no_need_size_or_count(self):
        for thing in no_sizes():
            with self.subTest(thing=repr(thing)):
                self.assertIs(is_heap((thing, ())), False)
                self.assertIs(is_heap((thing, ((3, 1),))), False)
                self.assertIs(is_heap((5, ((thing, 1),))), False)
                self.assertIs(is_heap((5, ((3, thing),))), False)
                self.assertIs(is_heap((5, ((3, 1), (thing, 1)))), False)
                self.assertIs(is_heap((5, ((3, 1), (4, thing)))), False)

    def test_kinds_not_rising(self):
        for kinds in [
            ((4, 1), (3, 1)), ((1, 1), (3, 1), (2, 1)), ((3, 1), (3, 1)), ((3, 1), (3, 2)), ((3, 2), (3, 1)),
            ((1, 1), (2, 1), (2, 5), (3, 1)),
        ]:
            self.assertIs(is_heap((5, kinds)), False)

    def test_lists_for_tuples(self):
        for thing in [[5, ((3, 1),)], (5, [(3, 1)]), (5, ([3, 1],)), (5, ((3, 1), [4, 1])), [5, []], (5, [])]:
            self.assertIs(is_heap(thing), False)

    def test_other_kinds(self):
        for thing in no_sizes() + [5]:
            with self.subTest(thing=repr(thing)):
                self.assertIs(is_heap(thing), False)
                if thing != ():
                    self.assertIs(is_heap((5, thing)), False)
                self.assertIs(is_heap((5, (thing,))), False)
                self.assertIs(is_heap((5, ((3, 1), thing))), False)

    def test_other_lengths(self):
        for thing in [
            (), (5,), (5, (), ()), (5, ((3, 1),), 1), (5, ((3,),)), (5, ((3, 1, 1),)), (5, ((),)), (5, (3, 1)),
        ]:
            self.assertIs(is_heap(thing), False)


class MadeHeapTest(unittest.TestCase):
    def test_any_order_and_repeats(self):
        wanted = (10, ((2, 1), (3, 3), (7, 2)))
        for sizes in set(itertools.permutations([7, 3, 3, 2, 7, 3])):
            self.assertEqual(made_heap(10, sizes), wanted)
            self.assertEqual(made_heap(10, list(sizes)), wanted)

    def test_of_none(self):
        self.assertEqual(made_heap(1, []), (1, ()))
        self.assertEqual(made_heap(GREATEST, ()), (GREATEST, ()))

    def test_at_the_bounds(self):
        self.assertEqual(made_heap(GREATEST, [GREATEST, 1]), (GREATEST, ((1, 1), (GREATEST, 1))))
        self.assertEqual(made_heap(1, [4] * 100), (1, ((4, 100),)))
        self.assertEqual(made_heap(9, (8, 7, 6, 5, 4, 3, 2, 1)), (9, tuple([(size, 1) for size in range(1, 9)])))
        self.assertEqual(made_heap(9, [6, 5, 4, 3] * 25), (9, ((3, 25), (4, 25), (5, 25), (6, 25))))

    def test_is_a_heap(self):
        for sizes in [[], [3], [9, 9, 2], [5] * 100, list(range(1, 9)) * 12]:
            told = made_heap(12, sizes)
            self.assertIs(is_heap(told), True)
            self.assertEqual(things_of(told), sorted(sizes))

    def test_more_than_a_hundred(self):
        for sizes in [[4] * 101, (4,) * 101, [1, 2] * 60, [None] * 101]:
            with self.assertRaises(NoHeap):
                made_heap(5, sizes)

    def test_more_than_eight_unlike(self):
        for sizes in [list(range(1, 10)), tuple(range(1, 10)), list(range(1, 10)) * 2, list(range(1, 101))]:
            with self.assertRaises(NoHeap):
                made_heap(5, sizes)

    def test_no_need(self):
        for need in no_sizes():
            for sizes in [[], [3, 4], (3,), "3"]:
                with self.subTest(need=repr(need)), self.assertRaises(NoHeap):
                    made_heap(need, sizes)

    def test_no_size(self):
        for size in no_sizes():
            for sizes in [[size], (size,), [3, size, 3], (3, 3, size)]:
                with self.subTest(size=repr(size)), self.assertRaises(NoHeap):
                    made_heap(5, sizes)

    def test_no_list(self):
        for sizes in no_wholes() + [0, 3, 10 ** 60]:
            with self.subTest(sizes=repr(sizes)), self.assertRaises(NoHeap):
                made_heap(5, sizes)

    def test_what_is_handed_in_stays(self):
        sizes = [5, 3, 5]
        told = made_heap(7, sizes)
        self.assertEqual(sizes, [5, 3, 5])
        sizes.append(9)
        self.assertEqual(told, (7, ((3, 1), (5, 2))))
        self.assertEqual(made_heap(7, [5, 3, 5]), (7, ((3, 1), (5, 2))))
        refused = [5, None, 3]
        with self.assertRaises(NoHeap):
            made_heap(7, refused)
        self.assertEqual(refused, [5, None, 3])


class TotalAndThingsTest(unittest.TestCase):
    def test_total(self):
        self.assertEqual(total_of((5, ())), 0)
        self.assertEqual(total_of((5, ((3, 1),))), 3)
        self.assertEqual(total_of((1, ((2, 3), (7, 10)))), 76)
        self.assertEqual(total_of((1, ((GREATEST - 1, GREATEST), (GREATEST, GREATEST)))), (2 * GREATEST - 1) * GREATEST)

    def test_things(self):
        self.assertEqual(things_of((5, ())), [])
        self.assertEqual(things_of((5, ((2, 3), (7, 1), (GREATEST, 2)))), [2, 2, 2, 7, GREATEST, GREATEST])

    def test_things_up_to_a_hundred(self):
        self.assertEqual(things_of((5, ((2, 100),))), [2] * 100)
        self.assertEqual(things_of((5, ((2, 60), (3, 40)))), [2] * 60 + [3] * 40)

    def test_things_above_a_hundred(self):
        for kinds in [((2, 101),), ((2, 60), (3, 41)), ((1, 1), (2, 100)), ((3, GREATEST),)]:
            with self.assertRaises(TooMany):
                things_of((5, kinds))

    def test_what_is_told_is_the_askers_own(self):
        heap = (5, ((2, 2), (7, 1)))
        told = things_of(heap)
        told.append(99)
        told[0] = 50
        self.assertEqual(things_of(heap), [2, 2, 7])
        self.assertEqual(heap, (5, ((2, 2), (7, 1))))


class WithoutTest(unittest.TestCase):
    HEAP = (10, ((2, 3), (5, 1), (9, GREATEST)))

    def test_fewer_things(self):
        self.assertEqual(heap_without(self.HEAP, (2,)), (10, ((2, 2), (5, 1), (9, GREATEST))))
        self.assertEqual(heap_without(self.HEAP, (2, 2, 9, 9)), (10, ((2, 1), (5, 1), (9, GREATEST - 2))))
        self.assertEqual(heap_without(self.HEAP, (9,) * 100), (10, ((2, 3), (5, 1), (9, GREATEST - 100))))

    def test_a_size_gone(self):
        self.assertEqual(heap_without(self.HEAP, (5,)), (10, ((2, 3), (9, GREATEST))))
        self.assertEqual(heap_without(self.HEAP, (2, 2, 2, 5)), (10, ((9, GREATEST),)))
        self.assertEqual(heap_without((4, ((3, 2),)), (3, 3)), (4, ()))

    def test_not_so_many(self):
        for lot in [(5, 5), (2, 2, 2, 2), (2, 2, 2, 2, 9), (2, 5, 5, 9), (9,) * 7 + (10,)]:
            with self.subTest(lot=lot), self.assertRaises(NoLot):
                heap_without(self.HEAP, lot)

    def test_none_of_a_size(self):
        for lot in [(1,), (3,), (10,), (2, 3), (1, 2, 9), (GREATEST,)]:
            with self.subTest(lot=lot), self.assertRaises(NoLot):
                heap_without(self.HEAP, lot)
        with self.assertRaises(NoLot):
            heap_without((10, ()), (2,))

    def test_what_is_left_is_a_heap(self):
        things = things_of((10, ((2, 3), (5, 1), (9, 2))))
        for number in range(1, 7):
            for lot in itertools.combinations(things, number):
                left = list(things)
                for size in lot:
                    left.remove(size)
                told = heap_without((10, ((2, 3), (5, 1), (9, 2))), lot)
                self.assertEqual(told, made_heap(10, left))
                self.assertIs(is_heap(told), True)


class BesideTest(unittest.TestCase):
    def test_either_way_round(self):
        one = (10, ((2, 3), (5, 1)))
        other = (10, ((1, 4), (5, 2), (9, 1)))
        wanted = (10, ((1, 4), (2, 3), (5, 3), (9, 1)))
        self.assertEqual(put_beside(one, other), wanted)
        self.assertEqual(put_beside(other, one), wanted)
        self.assertEqual((one, other), ((10, ((2, 3), (5, 1))), (10, ((1, 4), (5, 2), (9, 1)))))

    def test_beside_itself_and_none(self):
        heap = (10, ((2, 3), (5, 1)))
        self.assertEqual(put_beside(heap, heap), (10, ((2, 6), (5, 2))))
        self.assertEqual(put_beside(heap, (10, ())), heap)
        self.assertEqual(put_beside((10, ()), heap), heap)
        self.assertEqual(put_beside((10, ()), (10, ())), (10, ()))

    def refused_both_ways(self, error, one, other):
        for pair in [(one, other), (other, one)]:
            with self.subTest(pair=pair), self.assertRaises(error):
                put_beside(*pair)

    def test_unlike(self):
        self.refused_both_ways(Unlike, (10, ()), (11, ()))
        self.refused_both_ways(Unlike, (1, ((2, 3),)), (GREATEST, ((2, 3),)))

    def test_unlike_goes_ahead_of_too_many(self):
        self.refused_both_ways(Unlike, heap_of_kinds(8), (11, ((9, 1),)))
        self.refused_both_ways(Unlike, (10, ((3, GREATEST),)), (11, ((3, 1),)))

    def test_eight_sizes_and_nine(self):
        eight = heap_of_kinds(8)
        self.assertEqual(put_beside(heap_of_kinds(7), (10, ((8, 9),))), eight)
        self.assertEqual(len(put_beside(eight, eight)[1]), 8)
        self.refused_both_ways(TooMany, eight, (10, ((9, 1),)))
        self.refused_both_ways(TooMany, heap_of_kinds(5), (10, ((5, 1), (6, 1), (7, 1), (8, 1), (9, 1))))

    def test_like_things_at_the_bound_and_above(self):
        full = (10, ((3, GREATEST),))
        self.assertEqual(put_beside((10, ((3, GREATEST - 1),)), (10, ((3, 1),))), full)
        self.assertEqual(put_beside(full, (10, ((4, GREATEST),))), (10, ((3, GREATEST), (4, GREATEST))))
        self.refused_both_ways(TooMany, full, (10, ((3, 1),)))
        self.refused_both_ways(TooMany, (10, ((2, 1), (3, GREATEST // 2))), (10, ((3, GREATEST // 2 + 1), (4, 1))))


if __name__ == "__main__":
    unittest.main()
