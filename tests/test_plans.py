"""Plans and heaps so many times: points 2, 4, 9, 10, 13, 14, 26 and 27."""

import random
import unittest
from fractions import Fraction

from brimyard.errors import TooMany
from brimyard.fillings import count_of, filling_holds
from brimyard.heaps import is_heap
from brimyard.leans import lean_lots
from brimyard.plans import heap_times, plan_of, plan_right, whole_times
from brimyard.ratios import is_ratio
from brimyard.shares import shares_of
from tests.samples import GREATEST
from tests.searches import most_sought, sought_lots

# Each choice of 23 things of these three sizes is a lean lot, and no other one is: there are just 300.
THREE = ((100, GREATEST), (102, GREATEST), (104, GREATEST))
JUST_300 = (2300, THREE)
JUST_SIXTY = (60, ((1, GREATEST),))

HEAPS = [
    (2, ((1, 1),)),
    (1, ((1, 1),)),
    (10, ((2, 2), (5, 1))),
    (5, ((5, 3), (6, 1), (GREATEST, GREATEST))),
    (6, ((2, 3), (5, 2))),
    (10, ((1, 1), (5, 2))),
    (10, ((4, 5), (7, 3), (9, 1))),
    (12, ((2, 2), (3, 4), (4, 3), (5, 1), (6, 2), (7, 3), (11, 1), (12, 1))),
    (6, ((3, GREATEST), (4, GREATEST - 1))),
    (10, ((3, GREATEST), (4, GREATEST - 7), (7, GREATEST // 3), (9, 1))),
    (GREATEST, ((GREATEST // 3, GREATEST - 5), (GREATEST // 2, 7), (GREATEST - 1, GREATEST))),
    (13, ((2, 10 ** 11), (5, 10 ** 9 + 7), (6, 999999999989), (9, GREATEST))),
    JUST_SIXTY,
    JUST_300,
]


def small_heaps():
    chance = random.Random(26)
    heaps = []
    for again in range(120):
        sizes = sorted(chance.sample(range(1, 14), chance.randint(1, 5)))
        heaps.append((chance.randint(1, 14), tuple([(size, chance.randint(1, 3)) for size in sizes])))
    return heaps


def great_heaps():
    chance = random.Random(27)
    heaps = []
    for again in range(60):
        sizes = sorted(chance.sample(range(3, 17), chance.randint(1, 5)))
        kinds = [(size, chance.choice([1, 8, 10 ** 7, GREATEST])) for size in sizes]
        heaps.append((chance.randint(10, 20), tuple(kinds)))
    return heaps


def lots_of(heap):
    """All lean lots: none has more of a size than fill it alone."""
    need, kinds = heap
    return sought_lots((need, tuple([(size, min(many, -(-need // size))) for size, many in kinds])))


class PlanOfTest(unittest.TestCase):
    def judged(self, heap):
        told = plan_of(heap)
        self.assertIsInstance(told, tuple)
        total, filling, prices = told
        self.assertIsInstance(filling, tuple)
        self.assertIsInstance(prices, tuple)
        for ratio in (total,) + prices:
            self.assertTrue(is_ratio(ratio))
        costs = {size: Fraction(*price) for (size, many), price in zip(heap[1], prices)}
        self.assertEqual(len(prices), len(heap[1]))
        self.assertGreaterEqual(min(costs.values()), 0)
        self.assertEqual(sum([many * costs[size] for size, many in heap[1]]), Fraction(*total))
        self.assertTrue(all([sum([costs[size] for size in lot]) >= 1 for lot in lots_of(heap)]))
        self.assertEqual(total, shares_of(heap)[0])
        self.assertIs(filling_holds(heap, filling), True)
        self.assertGreater(count_of(filling) + len(heap[1]), total[0] // total[1])
        self.assertLessEqual(count_of(filling), total[0] // total[1])
        self.assertIs(plan_right(heap, told), True)
        self.assertEqual(plan_of(heap), told)
        return told

    def test_all_its_parts(self):
        for heap in [heap for heap in HEAPS if heap != JUST_300] + small_heaps() + great_heaps():
            with self.subTest(heap=heap):
                self.judged(heap)

    def test_just_300_lean_lots(self):
        total, filling, prices = plan_of(JUST_300)
        self.assertEqual(total, (3 * GREATEST, 23))
        self.assertIs(plan_right(JUST_300, (total, filling, prices)), True)

    def test_the_most_is_between(self):
        for heap in small_heaps():
            if sum([many for size, many in heap[1]]) <= 8:
                total, filling, prices = plan_of(heap)
                with self.subTest(heap=heap):
                    self.assertLessEqual(count_of(filling), most_sought(heap))
                    self.assertLessEqual(most_sought(heap), total[0] // total[1])

    def test_written_out(self):
        self.assertEqual(plan_of((2, ((1, 1),)))[:2], ((0, 1), ()))
        self.assertEqual(plan_of((2, ((1, 5),))), ((5, 2), (((1, 1), 2),), ((1, 2),)))
        self.assertEqual(plan_of((5, ((5, 3),))), ((3, 1), (((5,), 3),), ((1, 1),)))
        self.assertEqual(plan_of(JUST_SIXTY), ((GREATEST // 20, 3), (((1,) * 60, GREATEST // 60),), ((1, 60),)))

    def test_what_is_handed_in_stays(self):
        heap = (6, ((2, 3), (5, 2)))
        told = plan_of(heap)
        plan_right(heap, told)
        self.assertEqual(heap, (6, ((2, 3), (5, 2))))
        self.assertEqual(plan_of(heap), told)


class PlanRightTest(unittest.TestCase):
    HEAP = (6, ((2, 30), (5, 20)))
    SUM = (70, 3)
    PRICES = ((1, 3), (2, 3))

    def right(self, told, heap=HEAP):
        with self.subTest(told=told):
            self.assertIs(plan_right(heap, told), True)

    def wrong(self, told, heap=HEAP):
        with self.subTest(told=told):
            self.assertIs(plan_right(heap, told), False)

    def test_right(self):
        self.assertEqual(shares_of(self.HEAP)[0], self.SUM)
        self.right((self.SUM, (((2, 2, 2), 3), ((2, 5), 20)), self.PRICES))
        self.right((self.SUM, (((2, 2, 2), 4), ((2, 5), 18), ((5, 5), 1)), self.PRICES))

    def test_so_few_lots_that_it_is_just_one_still(self):
        # The whole part is 23, and there are two sizes.
        for times in [20, 19, 18, 17]:
            told = (self.SUM, (((2, 2, 2), 3), ((2, 5), times)), self.PRICES)
            (self.right if times >= 19 else self.wrong)(told)
        self.wrong((self.SUM, (), self.PRICES))

    def test_so_few_lots_of_other_heaps(self):
        heap = (2, ((1, 5),))
        self.right(((5, 2), (((1, 1), 2),), ((1, 2),)), heap)
        self.wrong(((5, 2), (((1, 1), 1),), ((1, 2),)), heap)
        # A sum that is whole.
        heap = (5, ((5, 3), (6, 1)))
        self.right(((4, 1), (((5,), 3),), ((1, 1), (1, 1))), heap)
        self.wrong(((4, 1), (((5,), 2),), ((1, 1), (1, 1))), heap)
        # So many sizes that nothing must be filled.
        heap = (10, ((1, 1), (2, 1), (3, 1), (4, 1)))
        self.right(((1, 1), (), ((1, 10), (1, 5), (3, 10), (2, 5))), heap)
        self.right(((3, 1), (), ((0, 1), (1, 1), (1, 1), (1, 1))), heap)
        self.wrong(((4, 1), (), ((1, 1), (1, 1), (1, 1), (1, 1))), heap)
        self.right(((4, 1), (((1, 2, 3, 4), 1),), ((1, 1), (1, 1), (1, 1), (1, 1))), heap)

    def test_a_filling_that_is_not_lean(self):
        self.right((self.SUM, (((2, 2, 2), 2), ((2, 2, 2, 2), 1), ((2, 5), 19)), self.PRICES))

    def test_prices_that_are_not_the_best(self):
        # Each thing costs 1: all cost 50, and so many lots can't be filled.
        self.wrong(((50, 1), (((2, 2, 2), 3), ((2, 5), 20)), ((1, 1), (1, 1))))
        heap = (6, ((2, 3), (5, 1)))
        self.right(((2, 1), (((2, 5), 1),), ((1, 2), (1, 2))), heap)
        self.right(((5, 2), (((2, 5), 1),), ((1, 2), (1, 1))), heap)
        self.wrong(((3, 1), (((2, 5), 1),), ((2, 3), (1, 1))), heap)

    def test_a_filling_that_does_not_hold(self):
        for filling in [
            (((2, 2, 2), 4), ((2, 5), 20)), (((2, 2, 2), 3), ((2, 5), 21)), (((2, 5), 20), ((2, 2, 2), 3)),
            (((2, 5), 10), ((2, 5), 10), ((5, 5), 3)), (((2, 2, 2), 3), ((5, 2), 20)), (((2, 2), 3), ((2, 5), 20)),
            (((2, 2, 2), 3), ((2, 5), 20), ((6,), 1)), (((), 3), ((2, 5), 20)), (((2, 5), 25), ((5, 5), -2)),
            (((2, 2, 2), 3), ((2, 5), 20), ((5, 5), 0)), (((1, 5), 20), ((2, 2, 2), 3)),
        ]:
            self.wrong((self.SUM, filling, self.PRICES))

    def test_a_price_below_nought(self):
        heap = (7, ((1, 1), (7, 2)))
        self.right(((2, 1), (((7,), 2),), ((0, 1), (1, 1))), heap)
        self.wrong(((1, 1), (((7,), 2),), ((-1, 1), (1, 1))), heap)
        self.wrong(((3, 2), (((7,), 2),), ((-1, 2), (1, 1))), heap)

    def test_too_few_or_too_many_prices(self):
        filling = (((2, 2, 2), 3), ((2, 5), 20))
        for prices in [(), self.PRICES[:1], self.PRICES + ((0, 1),), self.PRICES + ((1, 3),), self.PRICES * 50]:
            self.wrong((self.SUM, filling, prices))
        self.wrong(((10, 1), filling, ((1, 3),)))
        self.wrong(((0, 1), filling, ()))

    def test_a_lean_lot_that_costs_less_than_one(self):
        # Two fives cost less than 1; then two and a five; then three twos.
        filling = (((2, 2, 2), 3), ((2, 5), 20))
        self.wrong(((124, 5), filling, ((1, 2), (49, 100))))
        self.wrong(((20, 1), filling, ((1, 3), (1, 2))))
        self.wrong(((23, 1), filling, ((3, 10), (7, 10))))
        self.wrong(((0, 1), (), ((0, 1), (0, 1))))

    def test_a_sum_that_is_not_what_all_things_cost(self):
        filling = (((2, 2, 2), 3), ((2, 5), 20))
        for total in [(23, 1), (71, 3), (69, 3), (24, 1), (0, 1), (-70, 3), (10 ** 60, 1), (10 ** 60 - 1, 10 ** 60)]:
            self.wrong((total, filling, self.PRICES))

    def test_pairs_that_are_no_ratio(self):
        filling = (((2, 2, 2), 3), ((2, 5), 20))
        for total in [(140, 6), (-70, -3), (70, 0), (0, 0), (0, 3), (70, -3), (1, 0)]:
            self.wrong((total, filling, self.PRICES))
        for price in [(2, 6), (-1, -3), (1, 0), (0, 0), (1, -3), (10 ** 59, 3 * 10 ** 59)]:
            self.wrong((self.SUM, filling, (price, (2, 3))))
            self.wrong((self.SUM, filling, ((1, 3), price)))

    def test_a_heap_without_things(self):
        self.wrong(((0, 1), (), ()), (5, ()))
        self.wrong(((1, 1), (), ()), (5, ()))
        self.wrong(((-1, 1), (), ()), (5, ()))

    def test_numbers_of_sixty_figures(self):
        great = 10 ** 60 - 1
        self.wrong(((great, 1), (((2, 5), great),), ((great, 1), (1, great))))
        heap = (5, ((1, 1), (5, 1)))
        self.right(((great + 1, great), (((5,), 1),), ((1, great), (1, 1))), heap)
        self.wrong(((great - 1, great), (((5,), 1),), ((0, 1), (great - 1, great))), heap)


class HeapTimesTest(unittest.TestCase):
    def test_written_out(self):
        heap = (6, ((2, 3), (5, 2)))
        self.assertEqual(heap_times(heap, 1), heap)
        self.assertEqual(heap_times(heap, 2), (6, ((2, 6), (5, 4))))
        self.assertEqual(heap_times(heap, 10 ** 11), (6, ((2, 3 * 10 ** 11), (5, 2 * 10 ** 11))))
        self.assertEqual(heap, (6, ((2, 3), (5, 2))))
        self.assertIs(is_heap(heap_times(heap, 7)), True)

    def test_a_heap_without_things(self):
        self.assertEqual(heap_times((6, ()), 1), (6, ()))
        self.assertEqual(heap_times((6, ()), 10 ** 60 - 1), (6, ()))

    def test_just_at_the_bound(self):
        self.assertEqual(heap_times((6, ((2, 1),)), GREATEST), (6, ((2, GREATEST),)))
        self.assertEqual(heap_times((6, ((2, GREATEST),)), 1), (6, ((2, GREATEST),)))
        self.assertEqual(heap_times((6, ((2, 4), (3, 1))), GREATEST // 4), (6, ((2, GREATEST), (3, GREATEST // 4))))

    def test_above_the_bound(self):
        for heap, times in [
            ((6, ((2, 1),)), GREATEST + 1), ((6, ((2, GREATEST),)), 2), ((6, ((2, 1), (3, 4))), GREATEST // 4 + 1),
            ((6, ((2, 4), (3, 1))), GREATEST // 4 + 1), ((6, ((2, 1),)), 10 ** 60 - 1), ((6, ((2, 1),)), 10 ** 59),
        ]:
            with self.subTest(heap=heap, times=times), self.assertRaises(TooMany):
                heap_times(heap, times)

    def test_it_does_not_refuse_as_the_others(self):
        self.assertEqual(heap_times((61, ((1, 100),)), 3), (61, ((1, 300),)))


class WholeTimesTest(unittest.TestCase):
    def judged(self, heap):
        told = whole_times(heap)
        self.assertIsInstance(told, tuple)
        times, filling = told
        self.assertGreaterEqual(times, 1)
        self.assertIsInstance(filling, tuple)
        lots = set(lean_lots(heap))
        self.assertTrue(all([lot in lots for lot, many in filling]))
        # Counts may be above 10 ** 12 here.
        self.assertIs(filling_holds((heap[0], tuple([(size, many * times) for size, many in heap[1]])), filling), True)
        self.assertEqual(Fraction(count_of(filling)), times * Fraction(*shares_of(heap)[0]))
        self.assertEqual(whole_times(heap), told)
        return told

    def test_all_its_parts(self):
        for heap in HEAPS + small_heaps() + great_heaps() + [(1, ()), (GREATEST, ())]:
            with self.subTest(heap=heap):
                self.judged(heap)

    def test_written_out(self):
        self.assertEqual(whole_times((2, ((1, 4),))), (1, (((1, 1), 2),)))
        times, filling = self.judged((2, ((1, 5),)))
        self.assertEqual(filling, (((1, 1), 5 * times // 2),))
        times, filling = self.judged((2, ((1, 1),)))
        self.assertEqual(filling, ())
        times, filling = self.judged((1, ()))
        self.assertEqual(filling, ())

    def test_counts_above_the_bound(self):
        heap = (3, ((1, GREATEST), (2, GREATEST - 1)))
        times, filling = self.judged(heap)
        self.assertEqual(times % 3, 0)
        self.assertGreater(max([many for lot, many in filling]), GREATEST)
        with self.assertRaises(TooMany):
            heap_times(heap, times)

    def test_what_is_handed_in_stays(self):
        heap = (6, ((2, 3), (5, 2)))
        told = whole_times(heap)
        self.assertEqual(heap, (6, ((2, 3), (5, 2))))
        self.assertEqual(whole_times(heap), told)


class TooManyTest(unittest.TestCase):
    def refused(self, heap):
        with self.subTest(heap=heap):
            with self.assertRaises(TooMany):
                plan_of(heap)
            with self.assertRaises(TooMany):
                whole_times(heap)
            for told in [((0, 1), (), ()), ((0, 0), (((), 0),), ((1, 0),)), ((1, 1), (), ((1, 1),) * len(heap[1]))]:
                with self.assertRaises(TooMany):
                    plan_right(heap, told)

    def test_more_than_300_lean_lots(self):
        self.refused((2300, THREE + ((5000, 1),)))
        self.refused((2300, THREE + ((2300, GREATEST),)))

    def test_more_than_sixty_things(self):
        self.refused((61, ((1, 61),)))
        self.refused((61, ((1, GREATEST),)))
        self.refused((GREATEST, ((1, GREATEST),)))

    def test_just_300_and_just_sixty(self):
        for heap in [JUST_300, JUST_SIXTY, (60, ((1, 60),)), (61, ((1, 60), (2, 1))), (61, ((1, 60),))]:
            with self.subTest(heap=heap):
                self.assertIs(plan_right(heap, plan_of(heap)), True)
                whole_times(heap)
                self.assertIs(plan_right(heap, ((0, 1), (), ())), False)


if __name__ == "__main__":
    unittest.main()
