"""Cases: points 2, 4, 9, 13 and 17."""

import random
import unittest
from fractions import Fraction

from brimyard.cases import cases_hold, cases_of
from brimyard.errors import TooMany
from brimyard.heaps import heap_without, made_heap
from brimyard.ratios import is_ratio
from tests.samples import GREATEST
from tests.searches import most_sought, sought_lots

# Of these the most is below the whole part of the shares' sum: no prices show it.
ODD_HEAPS = [
    (27, ((2, 3), (7, 4), (10, 3), (24, 2))),
    (36, ((1, 1), (3, 2), (9, 4), (13, 2), (14, 1), (31, 1), (33, 1))),
    (15, ((1, 3), (5, 3), (7, 3), (11, 1), (12, 1))),
    (15, ((1, 3), (5, 3), (7, 3), (12, 2))),
    (15, ((1, 3), (5, 3), (7, 3), (12, 2), (15, 1))),
    (15, ((1, 3), (5, 3), (7, 3), (12, 2), (GREATEST, 1))),
    (18, ((2, 3), (6, 3), (9, 3), (14, 3))),
    (14, ((1, 3), (5, 3), (7, 3), (12, 3))),
    (30, ((3, 2), (11, 3), (15, 3), (21, 1), (24, 1), (28, 1))),
    (25, ((1, 4), (8, 3), (12, 3), (18, 1), (21, 1))),
    (12, ((1, 3), (4, 3), (6, 3), (8, 1), (10, 2))),
]
HEAPS = [
    (1, ()),
    (GREATEST, ()),
    (5, ((4, 1),)),
    (5, ((5, 1),)),
    (5, ((6, 12),)),
    (12, ((1, 12),)),
    (13, ((1, 12),)),
    (6, ((2, 3), (5, 2))),
    (10, ((1, 1), (5, 2))),
    (9, tuple([(size, 1) for size in range(1, 9)])),
    (20, ((2, 2), (3, 2), (5, 2), (6, 2), (7, 1), (8, 1), (9, 1), (11, 1))),
    (GREATEST, ((GREATEST // 3, 4), (GREATEST // 3 + 1, 4), (GREATEST // 2, 4))),
    (GREATEST, tuple([(GREATEST // 4 + size, 1) for size in range(-4, 4)])),
]


def small_heaps():
    chance = random.Random(17)
    heaps = []
    for number in range(13):
        for again in range(6):
            pool = chance.sample(range(1, 20), 8)
            heaps.append(made_heap(chance.randint(5, 25), [chance.choice(pool) for again in range(number)]))
    return heaps


def cost_reckoned(prices, sizes, lot):
    return sum([Fraction(*price) * lot.count(size) for price, size in zip(prices, sizes)])


def judged(heap, k, paper):
    """Whether a paper holds, reckoned in another way."""
    word, shown = paper
    sizes = [size for size, many in heap[1]]
    if word == "prices":
        if len(shown) != len(sizes) or not all([is_ratio(price) and price[0] >= 0 for price in shown]):
            return False
        if any([cost_reckoned(shown, sizes, lot) < 1 for lot in sought_lots(heap)]):
            return False
        return cost_reckoned(shown, sizes, [size for size, many in heap[1] for again in range(many)]) < k + 1
    lots = [lot for lot in sought_lots(heap) if max(sizes) in lot]
    if k < 1 or len(shown) != len(lots):
        return False
    return all([judged(heap_without(heap, lot), k - 1, inner) for lot, inner in zip(lots, shown)])


class CasesOfTest(unittest.TestCase):
    def test_the_most_and_a_paper_that_holds(self):
        for heap in HEAPS + ODD_HEAPS + small_heaps():
            with self.subTest(heap=heap):
                told = cases_of(heap)
                self.assertIsInstance(told, tuple)
                k, paper = told
                self.assertEqual(k, most_sought(heap))
                self.assertIs(judged(heap, k, paper), True)
                self.assertIs(cases_hold(heap, k, paper), True)
                self.assertIs(cases_hold(heap, k + 1, paper), True)
                self.assertIs(cases_hold(heap, k - 1, paper), False)
                self.assertEqual(cases_of(heap), told)

    def test_where_no_prices_show_it(self):
        for heap in ODD_HEAPS:
            with self.subTest(heap=heap):
                self.assertEqual(cases_of(heap)[1][0], "cases")

    def test_papers_within_one_another(self):
        k, paper = cases_of((15, ((1, 3), (5, 3), (7, 3), (12, 2), (15, 1))))
        self.assertEqual(k, 4)
        self.assertEqual(len(paper[1]), 1)
        self.assertEqual(paper[1][0], cases_of((15, ((1, 3), (5, 3), (7, 3), (12, 2))))[1])
        self.assertEqual(paper[1][0][0], "cases")

    def test_written_out(self):
        self.assertEqual(cases_of((1, ())), (0, ("prices", ())))
        self.assertEqual(cases_of((5, ((4, 1),))), (0, ("prices", ((0, 1),))))
        self.assertEqual(cases_of((5, ((6, 12),))), (12, ("prices", ((1, 1),))))

    def test_what_is_handed_in_stays(self):
        heap = (15, ((1, 3), (5, 3), (7, 3), (12, 2)))
        k, paper = cases_of(heap)
        cases_hold(heap, k, paper)
        self.assertEqual(heap, (15, ((1, 3), (5, 3), (7, 3), (12, 2))))
        self.assertEqual((k, paper), cases_of(heap))


class PricesTest(unittest.TestCase):
    HEAP = (10, ((1, 1), (5, 3)))

    def holds(self, k, prices, heap=HEAP):
        with self.subTest(k=k, prices=prices):
            self.assertIs(cases_hold(heap, k, ("prices", prices)), True)

    def refused(self, k, prices, heap=HEAP):
        with self.subTest(k=k, prices=prices):
            self.assertIs(cases_hold(heap, k, ("prices", prices)), False)

    def test_hold(self):
        self.holds(1, ((0, 1), (1, 2)))
        self.holds(2, ((0, 1), (1, 2)))
        self.holds(10 ** 59, ((0, 1), (1, 2)))
        self.holds(1, ((1, 3), (1, 2)))
        self.holds(2, ((2, 1), (1, 4)), (10, ((5, 1), (6, 1))))
        self.holds(0, (), (1, ()))
        self.holds(0, ((9, 10),), (5, ((4, 1),)))

    def test_k_one_less_or_below_nought(self):
        self.refused(0, ((0, 1), (1, 2)))
        for k in [-1, -2, -(10 ** 59)]:
            self.refused(k, ((0, 1), (1, 2)))
            self.refused(k, (), (1, ()))
            self.refused(k, ((0, 1),), (5, ((4, 1),)))

    def test_too_few_or_too_many(self):
        self.refused(1, ())
        self.refused(1, ((1, 2),))
        self.refused(1, ((0, 1), (1, 2), (0, 1)))
        self.refused(1, ((0, 1), (1, 2)) + ((0, 1),) * 3000)
        self.refused(0, ((0, 1),), (1, ()))
        self.refused(0, (), (5, ((4, 1),)))

    def test_a_price_below_nought(self):
        self.refused(1, ((-1, 1), (1, 2)))
        self.refused(1, ((-1, 10 ** 59), (1, 2)))
        self.refused(0, ((-1, 1),), (5, ((4, 1),)))
        self.refused(-3, ((-5, 1),), (5, ((4, 1),)))

    def test_a_lean_lot_that_costs_too_little(self):
        self.refused(1, ((0, 1), (499, 1000)))
        self.refused(1, ((1, 1), (0, 1)))
        self.refused(5, ((0, 1), (0, 1)))

    def test_all_things_cost_too_much(self):
        self.refused(1, ((1, 2), (1, 2)))
        self.holds(1, ((10 ** 58 - 1, 2 * 10 ** 58), (1, 2)))
        self.refused(1, ((0, 1), (2, 3)))
        self.refused(1, ((0, 1), (5, 1)))
        self.refused(0, ((1, 1),), (5, ((4, 1),)))

    def test_pairs_that_are_no_ratios(self):
        for price in [(2, 4), (1, 0), (0, 0), (-1, -2), (1, -2)]:
            self.refused(1, ((0, 1), price))
        for price in [(0, 2), (0, 0), (1, 0), (0, -1)]:
            self.refused(1, (price, (1, 2)))


class TreeTest(unittest.TestCase):
    HEAP = (14, ((1, 3), (5, 3), (7, 3), (12, 3)))

    def holds(self, heap, k, paper):
        with self.subTest(k=k, paper=paper):
            self.assertIs(judged(heap, k, paper), True)
            self.assertIs(cases_hold(heap, k, paper), True)

    def refused(self, heap, k, paper):
        with self.subTest(k=k, paper=paper):
            self.assertIs(cases_hold(heap, k, paper), False)

    def test_a_paper_for_each_lot_in_order(self):
        heap = (6, ((2, 3), (5, 2)))
        without = [("prices", ((1, 2), (1, 2))), ("prices", ((1, 3),))]
        self.holds(heap, 2, ("cases", tuple(without)))
        self.refused(heap, 2, ("cases", tuple(without[::-1])))
        self.refused(heap, 2, ("cases", tuple(without[:1])))
        self.refused(heap, 2, ("cases", tuple(without[1:])))
        self.refused(heap, 2, ("cases", tuple(without + without[1:])))
        self.refused(heap, 2, ("cases", tuple(without + without * 1000)))
        self.refused(heap, 2, ("cases", ()))
        self.refused(heap, 1, ("cases", tuple(without)))

    def test_odd_heap(self):
        k, paper = cases_of(self.HEAP)
        papers = paper[1]
        self.assertEqual((k, len(papers)), (4, 4))
        self.refused(self.HEAP, k - 1, paper)
        self.refused(self.HEAP, k, ("cases", papers[:-1]))
        self.refused(self.HEAP, k, ("cases", papers[1:]))
        self.refused(self.HEAP, k, ("cases", papers + papers[-1:]))
        for place in range(4):
            wrong = ("prices", ((0, 1),) * 4)
            self.refused(self.HEAP, k, ("cases", papers[:place] + (wrong,) + papers[place + 1:]))

    def test_papers_within_one_another(self):
        heap = (5, ((5, 3), (6, 2)))
        one = ("prices", ((1, 1),))
        self.holds(heap, 5, ("cases", (("cases", (one,)),)))
        self.refused(heap, 4, ("cases", (("cases", (one,)),)))
        last = ("cases", (("cases", (("cases", (("prices", ()),)),)),))
        self.holds(heap, 5, ("cases", (("cases", (last,)),)))
        self.refused(heap, 4, ("cases", (("cases", (last,)),)))
        empty = ("cases", ())
        self.refused(heap, 5, ("cases", (("cases", (("cases", (("cases", (("cases", (empty,)),)),)),)),)))
        self.holds(heap, 6, ("cases", (("cases", (("cases", (("cases", (("cases", (empty,)),)),)),)),)))

    def test_twelve_within_one_another(self):
        paper = ("prices", ())
        for again in range(12):
            paper = ("cases", (paper,))
        self.holds((5, ((6, 12),)), 12, paper)
        self.refused((5, ((6, 12),)), 11, paper)
        self.refused((5, ((6, 11),)), 12, paper)
        self.refused((5, ((4, 12),)), 12, paper)

    def test_without_lots(self):
        for heap in [(1, ()), (5, ((4, 1),)), (GREATEST, ((1, 12),))]:
            self.assertIs(cases_hold(heap, 1, ("cases", ())), True)
            self.assertIs(cases_hold(heap, 7, ("cases", ())), True)
            self.refused(heap, 0, ("cases", ()))
            self.refused(heap, -1, ("cases", ()))
            self.refused(heap, 1, ("cases", (("prices", ()),)))
            self.refused(heap, 1, ("cases", (("cases", ()),)))

    def test_at_nought(self):
        heap = (5, ((5, 1),))
        self.holds(heap, 1, ("cases", (("prices", ()),)))
        self.refused(heap, 0, ("cases", (("prices", ()),)))
        self.refused(heap, 0, ("cases", ()))
        self.refused(heap, -1, ("cases", (("prices", ()),)))

    def test_another_word(self):
        self.refused((5, ((5, 1),)), 1, ("case", (("prices", ()),)))
        self.refused((5, ((5, 1),)), 1, ("", (("prices", ()),)))
        self.refused((5, ((5, 1),)), 1, ("price", ((1, 1),)))

    def test_what_holds_is_so(self):
        for heap in small_heaps()[:40]:
            most = most_sought(heap)
            for k in range(-1, most):
                self.refused(heap, k, ("cases", ()))
                self.refused(heap, k, cases_of(heap)[1])
                self.refused(heap, k, ("prices", ((1, 2),) * len(heap[1])))


class TooManyTest(unittest.TestCase):
    def refused(self, heap):
        with self.subTest(heap=heap):
            with self.assertRaises(TooMany):
                cases_of(heap)
            for k in [-1, 0, 100]:
                for paper in [("prices", ()), ("cases", ()), ("cases", (("prices", ((-1, 0),)),))]:
                    with self.assertRaises(TooMany):
                        cases_hold(heap, k, paper)

    def test_more_than_twelve(self):
        self.refused((5, ((6, 13),)))
        self.refused((100, ((6, 13),)))
        self.refused((20, ((2, 3), (3, 2), (5, 2), (6, 2), (7, 1), (8, 1), (9, 1), (11, 1))))
        self.refused((5, ((1, GREATEST),)))
        self.refused((61, ((1, 61),)))
        self.refused((GREATEST, tuple([(10 ** 11 + place, GREATEST) for place in range(8)])))

    def test_at_just_twelve(self):
        for heap in [(5, ((6, 12),)), (20, ((2, 2), (3, 2), (5, 2), (6, 2), (7, 1), (8, 1), (9, 1), (11, 1)))]:
            k, paper = cases_of(heap)
            self.assertIs(cases_hold(heap, k, paper), True)


if __name__ == "__main__":
    unittest.main()
