"""The bench: points 2, 21 and 22."""

import itertools
import random
import unittest

from brimyard.bench import Bench
from brimyard.heaps import made_heap
from tests.samples import GREATEST
from tests.searches import most_sought


def bench_with(need, sizes):
    bench = Bench(need)
    for size in sizes:
        bench.put(size)
    return bench


def part_reckoned(need, sizes):
    parts = [k for k in range(1, 61) if all([k * size <= need for size in sizes])]
    return max(parts, default=1)


def bound_reckoned(n, k):
    """The greatest whole number that, times k, isn't above (k + 1) n + k - 1."""
    bound = 0
    while (bound + 1) * k <= (k + 1) * n + k - 1:
        bound += 1
    return bound


class PutTest(unittest.TestCase):
    def test_written_out(self):
        bench = Bench(10)
        self.assertEqual(bench.shut_lots(), [])
        self.assertEqual(bench.open_lot(), ())
        self.assertIs(bench.put(7), False)
        self.assertEqual(bench.open_lot(), (7,))
        self.assertIs(bench.put(2), False)
        self.assertEqual(bench.open_lot(), (2, 7))
        self.assertIs(bench.put(1), True)
        self.assertEqual(bench.open_lot(), ())
        self.assertEqual(bench.shut_lots(), [(1, 2, 7)])
        self.assertIs(bench.put(12), True)
        self.assertEqual(bench.shut_lots(), [(1, 2, 7), (12,)])
        self.assertIs(bench.put(9), False)
        self.assertIs(bench.put(3), True)
        self.assertIs(bench.put(3), False)
        self.assertEqual(bench.shut_lots(), [(1, 2, 7), (12,), (3, 9)])
        self.assertEqual(bench.open_lot(), (3,))

    def test_at_the_need_and_one_below(self):
        self.assertIs(Bench(1).put(1), True)
        self.assertIs(Bench(10).put(10), True)
        self.assertIs(Bench(10).put(9), False)
        self.assertIs(Bench(GREATEST).put(GREATEST), True)
        self.assertIs(Bench(GREATEST).put(GREATEST - 1), False)
        self.assertIs(Bench(1).put(GREATEST), True)

    def test_true_just_where_a_lot_is_shut(self):
        chance = random.Random(21)
        for again in range(40):
            need = chance.randint(1, 30)
            bench = Bench(need)
            shut = []
            lying = []
            for size in [chance.randint(1, 15) for again in range(30)]:
                lying.append(size)
                full = sum(lying) >= need
                if full:
                    shut.append(tuple(sorted(lying)))
                    lying = []
                self.assertIs(bench.put(size), full)
                self.assertEqual(bench.shut_lots(), shut)
                self.assertEqual(bench.open_lot(), tuple(sorted(lying)))

    def test_three_hundred_things_and_a_hundred_in_a_lot(self):
        bench = bench_with(100, [1] * 300)
        self.assertEqual(bench.shut_lots(), [(1,) * 100] * 3)
        self.assertEqual(bench.open_lot(), ())
        bench = bench_with(GREATEST, [GREATEST] * 300)
        self.assertEqual(bench.shut_lots(), [(GREATEST,)] * 300)

    def test_kinds_of_what_is_told(self):
        bench = bench_with(5, [3, 3, 1])
        self.assertIsInstance(bench.shut_lots(), list)
        self.assertIsInstance(bench.shut_lots()[0], tuple)
        self.assertIsInstance(bench.open_lot(), tuple)

    def test_lists_are_the_askers_own(self):
        bench = bench_with(5, [3, 3, 1])
        told = bench.shut_lots()
        bench.put(4)
        self.assertEqual(told, [(3, 3)])
        told.append("changed")
        told[0] = ()
        self.assertEqual(bench.shut_lots(), [(3, 3), (1, 4)])
        self.assertEqual(bench.bound_so(), 4)
        bench.shut_lots().clear()
        self.assertEqual(bench.shut_lots(), [(3, 3), (1, 4)])

    def test_two_benches_have_nothing_in_common(self):
        one = Bench(5)
        other = Bench(7)
        one.put(6)
        one.put(1)
        self.assertEqual((other.shut_lots(), other.open_lot(), other.part_of(), other.bound_so()), ([], (), 60, 0))
        other.put(2)
        self.assertEqual((one.shut_lots(), one.open_lot(), one.part_of(), one.bound_so()), ([(6,)], (1,), 1, 2))
        self.assertEqual((other.shut_lots(), other.open_lot(), other.part_of()), ([], (2,), 3))


class PartTest(unittest.TestCase):
    def test_where_nothing_came(self):
        for need in [1, 7, 60, GREATEST]:
            self.assertEqual(Bench(need).part_of(), 60)

    def test_where_a_thing_is_above_the_need(self):
        self.assertEqual(bench_with(5, [6]).part_of(), 1)
        self.assertEqual(bench_with(1, [GREATEST]).part_of(), 1)
        self.assertEqual(bench_with(100, [1, 1, 101, 1]).part_of(), 1)
        self.assertEqual(bench_with(100, [500, 1]).part_of(), 1)

    def test_at_and_above_the_need_by_k(self):
        for need in [60, 61, 3600, 10 ** 9 + 7, GREATEST]:
            for k in range(1, 61):
                for size in [need // k, need // k + 1, max(1, need // k - 1)]:
                    with self.subTest(need=need, size=size):
                        self.assertEqual(bench_with(need, [size]).part_of(), part_reckoned(need, [size]))
        for k in range(2, 61):
            self.assertEqual(bench_with(GREATEST, [GREATEST // k]).part_of(), k)
            self.assertEqual(bench_with(GREATEST, [GREATEST // k + 1]).part_of(), k - 1)
        self.assertEqual(bench_with(GREATEST, [1]).part_of(), 60)
        self.assertEqual(bench_with(61, [1]).part_of(), 60)
        self.assertEqual(bench_with(59, [1]).part_of(), 59)

    def test_of_all_that_came(self):
        for sizes in itertools.permutations([3, 8, 20]):
            self.assertEqual(bench_with(100, sizes).part_of(), 5)
            self.assertEqual(bench_with(24, sizes).part_of(), 1)
        bench = bench_with(100, [20, 90])
        self.assertEqual(bench.part_of(), 1)
        bench = bench_with(100, [30, 70, 5])
        self.assertEqual(bench.part_of(), 1)
        self.assertEqual(bench_with(100, [50, 50, 5]).part_of(), 2)


class BoundTest(unittest.TestCase):
    def test_written_out(self):
        self.assertEqual(Bench(10).bound_so(), 0)
        self.assertEqual(bench_with(10, [9]).bound_so(), 0)
        self.assertEqual(bench_with(10, [11]).bound_so(), 2)
        self.assertEqual(bench_with(10, [5] * 2).bound_so(), 2)
        self.assertEqual(bench_with(10, [5] * 6).bound_so(), 5)
        self.assertEqual(bench_with(10, [5] * 7).bound_so(), 5)
        self.assertEqual(bench_with(9, [3] * 12).bound_so(), 6)
        self.assertEqual(bench_with(60, [1] * 300).bound_so(), 6)

    def test_reckoned_in_another_way(self):
        for k in range(1, 61):
            for n in range(0, 5):
                with self.subTest(k=k, n=n):
                    bench = bench_with(k, [1] * (k * n))
                    self.assertEqual(bench.part_of(), k if n else 60)
                    self.assertEqual(bench.bound_so(), bound_reckoned(n, k))
        for n in range(0, 300, 7):
            self.assertEqual(bench_with(2, [2] * n).bound_so(), 2 * n)
            self.assertEqual(bench_with(1, [3] * n).bound_so(), 2 * n)

    def test_no_filling_has_more(self):
        chance = random.Random(22)
        for again in range(150):
            need = chance.randint(2, 14)
            sizes = [chance.randint(1, need) for again in range(chance.randint(0, 8))]
            bench = bench_with(need, sizes)
            with self.subTest(need=need, sizes=sizes):
                self.assertLessEqual(most_sought(made_heap(need, sizes)), bench.bound_so())
                self.assertLessEqual(bench.bound_so(), 2 * len(bench.shut_lots()))


if __name__ == "__main__":
    unittest.main()
