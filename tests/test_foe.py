"""The foe: points 2 and 23."""

import random
import unittest
from fractions import Fraction

from brimyard.fillings import count_of, filling_holds
from brimyard.foe import foe_bound, foe_filling, foe_row
from tests.samples import GREATEST


def row_reckoned(levels):
    """k and m, with all products side by side."""
    counts = {k: sum([1 for level in levels if level >= k]) for k in range(1, max(levels) + 1)}
    least = min([k * counts[k] for k in counts])
    k = [k for k in sorted(counts) if k * counts[k] == least][0]
    m = 0
    while (m + 1) * k <= sum(levels):
        m += 1
    return (k, m, counts[k])


def heap_of_all(need, levels, k, m):
    """The heap of all things that come."""
    counts = {1: sum(levels)}
    counts[need - k] = counts.get(need - k, 0) + m
    return (need, tuple(sorted(counts.items())))


def full_lots(need, lots):
    return len([lot for lot in lots if lot >= need])


def best_hand(need, levels, size, m):
    """The most full lots that m things of a size can make of the levels and of new lots."""
    wanted = sorted([-(-(need - level) // size) for level in list(levels) + [0] * m])
    lots = 0
    while lots < len(wanted) and sum(wanted[:lots + 1]) <= m:
        lots += 1
    return lots


def chance_hand(need, levels, size, m, chance):
    """A hand that puts each thing anywhere."""
    lots = list(levels) + [0] * m
    for again in range(m):
        lots[chance.randrange(len(lots))] += size
    return full_lots(need, lots)


def fullest_first_hand(need, levels, size, m):
    """A hand that puts each thing into the fullest lot that isn't full."""
    lots = list(levels) + [0] * m
    for again in range(m):
        place = max([place for place in range(len(lots)) if lots[place] < need], key=lambda place: lots[place])
        lots[place] += size
    return full_lots(need, lots)


def alone_hand(need, levels, size, m):
    """A hand that puts the things by twos into new lots."""
    return full_lots(need, list(levels) + [2 * size] * (m // 2))


def some_levels():
    chance = random.Random(23)
    told = [
        [1], [59], [1] * 60, [59] * 60, list(range(1, 60)), [1, 59], [30] * 2, [2, 1], [2, 2, 1], [3, 1, 1],
        [4] + [1] * 7, [4] + [1] * 3, [4] + [1] * 4, [6, 6, 3, 3, 2, 2, 1], [60 // k for k in range(2, 61)],
    ]
    for again in range(150):
        greatest = chance.choice([1, 2, 3, 5, 10, 59])
        told.append([chance.randint(1, greatest) for place in range(chance.randint(1, chance.choice([3, 8, 60])))])
    for again in range(60):
        # Few great levels among many small ones, so that k isn't always 1.
        told.append([chance.choice([1, 1, 1, 1, 2, 2, 3, 59 // chance.randint(1, 9)]) for place in range(60)])
    return told


class RowTest(unittest.TestCase):
    def test_written_out(self):
        self.assertEqual(foe_row(100, [1]), (1, 1))
        self.assertEqual(foe_row(100, [59]), (1, 59))
        self.assertEqual(foe_row(100, [5, 3, 1, 1]), (1, 10))
        self.assertEqual(foe_row(100, [2, 1, 1]), (2, 2))
        self.assertEqual(foe_row(100, [3, 1, 1, 1]), (2, 3))
        self.assertEqual(foe_row(100, [3, 2, 1, 1, 1]), (3, 2))
        self.assertEqual(foe_row(100, [4, 4, 1, 1, 1, 1, 1]), (2, 6))

    def test_of_several_products_the_least_k(self):
        # 1 times 2 and 2 times 1.
        self.assertEqual(foe_row(10, [2, 1]), (1, 3))
        # 1 times 6, 2 times 3, 3 times 2.
        self.assertEqual(foe_row(100, [3, 3, 2, 1, 1, 1]), (1, 11))
        # 1 times 7, 2 times 3, 3 times 2.
        self.assertEqual(foe_row(100, [3, 3, 2, 1, 1, 1, 1]), (2, 6))

    def test_reckoned_in_another_way(self):
        for levels in some_levels():
            for need in [sum(levels) + 1, sum(levels) + 2, 10000, GREATEST]:
                with self.subTest(need=need, levels=levels):
                    k, m, lots = row_reckoned(levels)
                    self.assertEqual(foe_row(need, levels), (k, m))
                    self.assertEqual(foe_bound(need, levels), (m + lots) // 2)

    def test_some_rows_have_a_k_above_one(self):
        told = [foe_row(GREATEST, levels)[0] for levels in some_levels()]
        self.assertGreater(len(set(told)), 5)

    def test_in_any_order_and_as_a_tuple(self):
        chance = random.Random(1)
        for levels in some_levels():
            mixed = list(levels)
            chance.shuffle(mixed)
            need = sum(levels) + 1
            for other in [mixed, tuple(mixed), tuple(levels), sorted(levels), sorted(levels)[::-1]]:
                self.assertEqual(foe_row(need, other), foe_row(need, levels))
                self.assertEqual(foe_bound(need, other), foe_bound(need, levels))
                self.assertEqual(foe_filling(need, other), foe_filling(need, levels))

    def test_somewhat_beyond_the_bounds(self):
        self.assertEqual(foe_row(1000, [1] * 63), (1, 63))
        self.assertEqual(foe_row(1000, [61]), (1, 61))
        self.assertEqual(foe_row(1000, []), (1, 0))
        self.assertEqual(foe_bound(1000, []), 0)

    def test_kinds_of_what_is_told(self):
        self.assertIsInstance(foe_row(10, [2, 1]), tuple)
        self.assertIsInstance(foe_filling(10, [2, 1]), tuple)

    def test_what_is_handed_in_stays(self):
        levels = [3, 1, 2, 1]
        foe_row(10, levels)
        foe_bound(10, levels)
        foe_filling(10, levels)
        self.assertEqual(levels, [3, 1, 2, 1])


class BoundTest(unittest.TestCase):
    def test_written_out(self):
        self.assertEqual(foe_bound(100, [1]), 1)
        self.assertEqual(foe_bound(100, [59]), 30)
        self.assertEqual(foe_bound(100, [5, 3, 1, 1]), 7)
        self.assertEqual(foe_bound(100, [2, 1, 1]), 1)
        self.assertEqual(foe_bound(100, [3, 2, 1, 1, 1]), 1)
        self.assertEqual(foe_bound(GREATEST, [1] * 60), 60)

    def test_no_hand_has_more(self):
        chance = random.Random(5)
        reached = 0
        for levels in some_levels():
            for need in [sum(levels) + 1, 2 * sum(levels) + 3, GREATEST]:
                k, m = foe_row(need, levels)
                bound = foe_bound(need, levels)
                hands = [
                    best_hand(need, levels, need - k, m),
                    alone_hand(need, levels, need - k, m),
                    chance_hand(need, levels, need - k, m, chance),
                ]
                if m < 200:
                    hands.append(fullest_first_hand(need, levels, need - k, m))
                with self.subTest(need=need, levels=levels):
                    self.assertLessEqual(max(hands), bound)
                reached += best_hand(need, levels, need - k, m) == bound
        self.assertGreater(reached, 100)

    def test_the_sum_of_parts(self):
        for levels in some_levels():
            k, m = foe_row(GREATEST, levels)
            lots = len([level for level in levels if level >= k])
            parts = sum([Fraction(1, part) for part in range(1, max(levels) + 1)])
            self.assertLessEqual(k * lots * parts, sum(levels))


class FillingTest(unittest.TestCase):
    def test_written_out(self):
        self.assertEqual(foe_filling(100, [1]), (((1, 99), 1),))
        self.assertEqual(foe_filling(2, [1]), (((1, 1), 1),))
        self.assertEqual(foe_filling(10, [3, 2, 1, 1, 1]), (((1, 1, 1, 7), 2),))
        self.assertEqual(foe_filling(GREATEST, [3, 2, 1, 1, 1]), (((1, 1, 1, GREATEST - 3), 2),))

    def test_it_holds(self):
        for levels in some_levels():
            for need in [sum(levels) + 1, sum(levels) + 2, 10000, GREATEST]:
                with self.subTest(need=need, levels=levels):
                    k, m = foe_row(need, levels)
                    filling = foe_filling(need, levels)
                    self.assertEqual(filling, (((1,) * k + (need - k,), m),))
                    self.assertEqual(count_of(filling), m)
                    self.assertIs(filling_holds(heap_of_all(need, levels, k, m), filling), True)

    def test_asked_again(self):
        for levels in some_levels()[:20]:
            self.assertEqual(foe_filling(GREATEST, levels), foe_filling(GREATEST, levels))


if __name__ == "__main__":
    unittest.main()
