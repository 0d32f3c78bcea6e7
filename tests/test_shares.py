"""Shares and prices: points 2, 4, 9, 13 and 14."""

import itertools
import random
import unittest
from fractions import Fraction

from brimyard.errors import TooMany
from brimyard.ratios import is_ratio
from brimyard.shares import shares_of, shares_right
from tests.samples import GREATEST
from tests.searches import most_sought, sought_lots

# Each choice of 23 things of these three sizes is a lean lot, and no other one is: there are just 300.
THREE = ((100, GREATEST), (102, GREATEST), (104, GREATEST))

HEAPS = [
    (1, ()),
    (GREATEST, ()),
    (10, ((2, 2), (5, 1))),
    (9, ((2, 2), (5, 1))),
    (5, ((5, 3), (6, 1), (GREATEST, GREATEST))),
    (6, ((2, 3), (5, 2))),
    (10, ((5, 4), (6, 4))),
    (10, ((1, 1), (5, 2))),
    (10, ((4, 1), (5, 1), (20, 1))),
    (12, ((2, 2), (3, 4), (4, 3), (5, 1), (6, 2), (7, 3), (11, 1), (12, 1))),
    (60, ((1, GREATEST),)),
    (61, ((1, 60), (2, 1))),
    (6, ((3, GREATEST), (4, GREATEST - 1))),
    (10, ((3, GREATEST), (4, GREATEST - 7), (7, GREATEST // 3), (9, 1))),
    (GREATEST, ((GREATEST // 3, GREATEST - 5), (GREATEST // 2, 7), (GREATEST - 1, GREATEST))),
    (13, ((2, 10 ** 11), (5, 10 ** 9 + 7), (6, 999999999989), (9, GREATEST))),
    (2300, THREE),
]


def small_heaps():
    chance = random.Random(14)
    heaps = []
    for again in range(150):
        sizes = sorted(chance.sample(range(1, 14), chance.randint(1, 5)))
        heaps.append((chance.randint(1, 14), tuple([(size, chance.randint(1, 4)) for size in sizes])))
    return heaps


def wide_heaps():
    chance = random.Random(15)
    heaps = []
    for again in range(12):
        sizes = sorted(chance.sample(range(3, 25), 8))
        heaps.append((chance.randint(10, 25), tuple([(size, chance.randint(1, 2)) for size in sizes])))
        sizes = sorted(chance.sample(range(340, 700), 6))
        heaps.append((1000, tuple([(size, chance.choice([1, 5, 10 ** 6, GREATEST])) for size in sizes])))
    return heaps


def lots_of(heap):
    """All lean lots: none has more of a size than fill it alone."""
    need, kinds = heap
    return sought_lots((need, tuple([(size, min(many, -(-need // size))) for size, many in kinds])))


class SharesOfTest(unittest.TestCase):
    def judged(self, heap):
        told = shares_of(heap)
        self.assertIsInstance(told, tuple)
        total, shares, prices = told
        self.assertIsInstance(shares, tuple)
        self.assertIsInstance(prices, tuple)
        for ratio in [total] + [part for lot, part in shares] + list(prices):
            self.assertTrue(is_ratio(ratio))
        lots = lots_of(heap)
        parts = {lot: Fraction(*part) for lot, part in shares}
        costs = [Fraction(*price) for price in prices]
        self.assertEqual(list(shares), sorted(shares))
        self.assertEqual(len(parts), len(shares))
        self.assertLessEqual(len(shares), len(heap[1]))
        self.assertLessEqual(set(parts), set(lots))
        self.assertTrue(all([part > 0 for part in parts.values()]))
        for size, many in heap[1]:
            self.assertLessEqual(sum([lot.count(size) * part for lot, part in parts.items()]), many)
        self.assertEqual(len(costs), len(heap[1]))
        self.assertTrue(all([cost >= 0 for cost in costs]))
        cost_by_size = dict(zip([size for size, many in heap[1]], costs))
        for lot in lots:
            self.assertGreaterEqual(sum([cost_by_size[size] for size in lot]), 1)
        self.assertEqual(sum(parts.values()), Fraction(*total))
        self.assertEqual(sum([many * cost for (size, many), cost in zip(heap[1], costs)]), Fraction(*total))
        self.assertIs(shares_right(heap, told), True)
        self.assertEqual(shares_of(heap), told)

    def test_shares_and_prices_come_to_one_sum(self):
        for heap in HEAPS + small_heaps() + wide_heaps():
            with self.subTest(heap=heap):
                self.judged(heap)

    def test_sums_written_out(self):
        sums = {
            (6, ((2, 3), (5, 2))): (7, 3),
            (10, ((5, 4), (6, 4))): (4, 1),
            (10, ((1, 1), (5, 2))): (1, 1),
            (60, ((1, GREATEST),)): (GREATEST // 20, 3),
            (5, ((5, 3), (6, 1), (GREATEST, GREATEST))): (GREATEST + 4, 1),
            (6, ((3, GREATEST), (4, GREATEST - 1))): (2 * GREATEST - 1, 2),
            (10, ((3, 3), (4, 3))): (2, 1),
        }
        for heap, total in sums.items():
            with self.subTest(heap=heap):
                self.assertEqual(shares_of(heap)[0], total)

    def test_only_one_answer(self):
        wanted = ((7, 3), (((2, 2, 2), (1, 3)), ((2, 5), (2, 1))), ((1, 3), (2, 3)))
        self.assertEqual(shares_of((6, ((2, 3), (5, 2)))), wanted)

    def test_nought_without_lean_lots(self):
        self.assertEqual(shares_of((1, ())), ((0, 1), (), ()))
        self.assertEqual(shares_of((10, ((2, 2), (5, 1)))), ((0, 1), (), ((0, 1), (0, 1))))
        self.assertEqual(shares_of((GREATEST, ((1, GREATEST - 1),))), ((0, 1), (), ((0, 1),)))

    def test_the_most_is_not_above_the_sum(self):
        for need in range(1, 16, 2):
            for manies in itertools.product([1, 2, 3], repeat=3):
                heap = (need, tuple(zip([2, 3, 7], manies)))
                total = shares_of(heap)[0]
                with self.subTest(heap=heap):
                    self.assertLessEqual(most_sought(heap), total[0] // total[1])

    def test_what_is_handed_in_stays(self):
        heap = (6, ((2, 3), (5, 2)))
        told = shares_of(heap)
        shares_right(heap, told)
        self.assertEqual(heap, (6, ((2, 3), (5, 2))))
        self.assertEqual(told, shares_of(heap))


class RightTest(unittest.TestCase):
    ODD = (6, ((2, 3), (5, 2)))
    TWINS = (10, ((5, 4), (6, 4)))
    HALVES = ((1, 2), (1, 2))
    IDLE = (10, ((1, 1), (5, 2)))

    def right(self, heap, told):
        with self.subTest(told=told):
            self.assertIs(shares_right(heap, told), True)

    def wrong(self, heap, told):
        with self.subTest(told=told):
            self.assertIs(shares_right(heap, told), False)

    def test_right(self):
        self.right(self.ODD, ((7, 3), (((2, 2, 2), (1, 3)), ((2, 5), (2, 1))), ((1, 3), (2, 3))))
        self.right(self.TWINS, ((4, 1), (((5, 5), (2, 1)), ((6, 6), (2, 1))), self.HALVES))
        self.right(self.TWINS, ((4, 1), (((5, 6), (4, 1)),), self.HALVES))
        self.right(self.IDLE, ((1, 1), (((5, 5), (1, 1)),), ((0, 1), (1, 2))))
        self.right((1, ()), ((0, 1), (), ()))
        self.right((10, ((2, 2), (5, 1))), ((0, 1), (), ((0, 1), (0, 1))))

    def test_more_shares_than_sizes(self):
        self.right(self.TWINS, ((4, 1), (((5, 5), (1, 1)), ((5, 6), (2, 1)), ((6, 6), (1, 1))), self.HALVES))
        self.right(self.TWINS, ((4, 1), (((5, 5), (5, 3)), ((5, 6), (2, 3)), ((6, 6), (5, 3))), self.HALVES))
        shares = tuple([(lot, (1, 1)) for lot in itertools.combinations_with_replacement([100, 102, 104], 23)])
        heap = (2300, ((100, 2300), (102, 2300), (104, 2300)))
        self.right(heap, ((300, 1), shares, ((1, 23),) * 3))
        self.wrong((2300, THREE), ((300, 1), shares, ((1, 23),) * 3))

    def test_a_share_of_nought_or_below(self):
        self.wrong(self.TWINS, ((4, 1), (((5, 5), (2, 1)), ((5, 6), (0, 1)), ((6, 6), (2, 1))), self.HALVES))
        self.wrong(self.TWINS, ((4, 1), (((5, 5), (3, 1)), ((5, 6), (-2, 1)), ((6, 6), (3, 1))), self.HALVES))

    def test_a_lot_that_is_not_lean(self):
        self.wrong(self.IDLE, ((1, 1), (((1, 5, 5), (1, 1)),), ((0, 1), (1, 2))))
        self.wrong(self.IDLE, ((1, 1), (((5,), (1, 1)),), ((0, 1), (1, 2))))
        self.wrong(self.IDLE, ((1, 1), (((), (1, 1)),), ((0, 1), (1, 2))))
        self.wrong((10, ((5, 1), (6, 1))), ((1, 1), (((6, 5), (1, 1)),), self.HALVES))

    def test_a_lot_that_the_heap_has_not_the_things_for(self):
        heap = (10, ((4, 1), (5, 1), (20, 1)))
        prices = ((0, 1), (1, 2), (1, 1))
        self.wrong(heap, ((3, 2), (((5, 5), (1, 2)), ((20,), (1, 1))), prices))
        self.right(heap, ((1, 1), (((20,), (1, 1)),), ((0, 1), (0, 1), (1, 1))))
        self.wrong(heap, ((3, 2), (((15,), (1, 2)), ((20,), (1, 1))), prices))
        self.wrong((1, ()), ((1, 1), (((1,), (1, 1)),), ()))

    def test_not_rising(self):
        self.wrong(self.TWINS, ((4, 1), (((6, 6), (2, 1)), ((5, 5), (2, 1))), self.HALVES))
        shares = (((5, 5), (1, 1)), ((6, 6), (1, 1)), ((5, 6), (2, 1)))
        self.wrong(self.TWINS, ((4, 1), shares, self.HALVES))

    def test_a_lot_twice(self):
        self.wrong(self.TWINS, ((4, 1), (((5, 6), (2, 1)), ((5, 6), (2, 1))), self.HALVES))
        self.wrong(self.TWINS, ((4, 1), (((5, 6), (1, 1)), ((5, 6), (3, 1))), self.HALVES))
        self.wrong(self.TWINS, ((4, 1), (((5, 6), (1, 1000)),) * 4000, self.HALVES))

    def test_too_much_of_one_size(self):
        self.wrong(self.TWINS, ((4, 1), (((5, 5), (3, 1)), ((6, 6), (1, 1))), self.HALVES))
        self.wrong(self.TWINS, ((4, 1), (((5, 5), (1, 1)), ((6, 6), (3, 1))), self.HALVES))
        self.wrong(self.TWINS, ((4, 1), (((5, 5), (2001, 1000)), ((6, 6), (1999, 1000))), self.HALVES))

    def test_a_price_below_nought(self):
        self.wrong(self.IDLE, ((1, 1), (((5, 5), (1, 1)),), ((-1, 1), (1, 1))))
        self.wrong(self.IDLE, ((1, 1), (((5, 5), (1, 1)),), ((-1, 10 ** 58), (10 ** 58 + 1, 2 * 10 ** 58))))

    def test_too_few_or_too_many_prices(self):
        shares = (((5, 6), (4, 1)),)
        self.wrong(self.TWINS, ((4, 1), shares, ()))
        self.wrong(self.TWINS, ((4, 1), shares, ((1, 1),)))
        self.wrong(self.TWINS, ((4, 1), shares, self.HALVES + ((0, 1),)))
        self.wrong(self.TWINS, ((4, 1), shares, self.HALVES + ((0, 1),) * 3000))
        self.wrong((1, ()), ((0, 1), (), ((0, 1),)))
        self.wrong((10, ((2, 2), (5, 1))), ((0, 1), (), ((0, 1),)))

    def test_a_lean_lot_that_costs_too_little(self):
        shares = (((5, 6), (4, 1)),)
        self.wrong(self.TWINS, ((4, 1), shares, ((1, 4), (3, 4))))
        self.wrong(self.TWINS, ((4, 1), shares, ((3, 4), (1, 4))))
        self.wrong(self.TWINS, ((4, 1), shares, ((499, 1000), (501, 1000))))

    def test_a_sum_that_shares_or_prices_do_not_come_to(self):
        shares = (((5, 6), (4, 1)),)
        for total in [(3, 1), (5, 1), (0, 1), (-4, 1), (4, 3), (39, 10), (10 ** 59, 1)]:
            self.wrong(self.TWINS, (total, shares, self.HALVES))
        for total in [(7, 2), (4, 1)]:
            self.wrong(self.TWINS, (total, (((5, 6), (7, 2)),), self.HALVES))
        for total in [(5, 1), (4, 1), (6, 1)]:
            self.wrong(self.TWINS, (total, shares, ((3, 4), (1, 2))))
        self.wrong(self.TWINS, ((0, 1), (), self.HALVES))
        self.wrong((10, ((2, 2), (5, 1))), ((0, 1), (), ((0, 1), (1, 1))))

    def test_pairs_that_are_no_ratios(self):
        shares = (((5, 6), (4, 1)),)
        for total in [(8, 2), (-4, -1), (4, 0), (0, 0), (1, 4), (0, 7)]:
            self.wrong(self.TWINS, (total, shares, self.HALVES))
        for part in [(8, 2), (-4, -1), (4, 0), (0, 0), (4, -1)]:
            self.wrong(self.TWINS, ((4, 1), (((5, 6), part),), self.HALVES))
        for price in [(2, 4), (-1, -2), (1, 0), (0, 0), (1, -2)]:
            self.wrong(self.TWINS, ((4, 1), shares, (price, (1, 2))))
            self.wrong(self.TWINS, ((4, 1), shares, ((1, 2), price)))
        self.wrong((10, ((2, 2), (5, 1))), ((0, 2), (), ((0, 1), (0, 1))))
        self.wrong((10, ((2, 2), (5, 1))), ((0, 1), (), ((0, 1), (0, 2))))

    def test_numbers_of_sixty_figures(self):
        bottom = 10 ** 59 + 3
        shares = (((5, 5), (1, bottom)), ((5, 6), (4 * bottom - 2, bottom)), ((6, 6), (1, bottom)))
        self.right(self.TWINS, ((4, 1), shares, self.HALVES))
        self.wrong(self.TWINS, ((4, 1), shares[:2] + (((6, 6), (2, bottom)),), self.HALVES))
        self.wrong(self.TWINS, ((4 * bottom + 1, bottom), shares[:2] + (((6, 6), (2, bottom)),), self.HALVES))


class TooManyTest(unittest.TestCase):
    def refused(self, heap):
        with self.subTest(heap=heap):
            with self.assertRaises(TooMany):
                shares_of(heap)
            for told in [((0, 1), (), ()), ((1, 0), (((), (0, 0)),), ((-1, 1),))]:
                with self.assertRaises(TooMany):
                    shares_right(heap, told)

    def test_just_three_hundred_and_more(self):
        heap = (2300, ((100, 22),) + THREE[1:] + ((5000, 1),))
        self.assertIs(shares_right(heap, shares_of(heap)), True)
        self.refused((2300, THREE + ((5000, 1),)))
        self.refused((GREATEST, tuple([(10 ** 11 + place, GREATEST) for place in range(8)])))

    def test_just_sixty_and_more(self):
        heap = (60, ((1, 60), (61, 1)))
        self.assertIs(shares_right(heap, shares_of(heap)), True)
        self.refused((61, ((1, 61),)))
        self.refused((61, ((1, 61), (62, 1))))
        self.refused((GREATEST, ((1, GREATEST), (GREATEST, 1))))


if __name__ == "__main__":
    unittest.main()
