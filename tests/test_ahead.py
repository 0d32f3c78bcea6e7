"""Ahead: points 2, 21, 24 and 25."""

import random
import unittest

from brimyard.ahead import ahead_bound, made_ahead
from brimyard.errors import TooMany
from brimyard.fillings import count_of, filling_holds
from brimyard.heaps import made_heap
from tests.samples import GREATEST
from tests.searches import most_sought


def made_thing_by_thing(heap):
    """The filling as point 24 tells it, one thing after another."""
    need, kinds = heap
    left = [size for size, many in kinds for again in range(many)]
    lots = [(size,) for size in left if size >= need]
    left = [size for size in left if size < need]
    while left:
        lot = [left.pop()]
        while left and sum(lot) < need:
            lot.append(left.pop(0))
        if sum(lot) >= need:
            lots.append(tuple(sorted(lot)))
    return tuple([(lot, lots.count(lot)) for lot in sorted(set(lots))])


def part_reckoned(heap):
    parts = [k for k in range(1, 61) if all([k * size <= heap[0] for size, many in heap[1]])]
    return max(parts, default=1)


def small_heaps():
    chance = random.Random(24)
    heaps = [(1, ()), (GREATEST, ()), (5, ((5, 3),)), (5, ((4, 3),)), (5, ((6, 3),)), (1, ((1, 1),)), (2, ((1, 1),))]
    for again in range(400):
        need = chance.randint(1, 20)
        greatest = chance.choice([need // 4 + 1, need, need + 3])
        heaps.append(made_heap(need, [chance.randint(1, min(8, greatest)) for place in range(chance.randint(0, 8))]))
        things = [chance.randint(1, greatest) for place in range(chance.randint(0, 7))]
        heaps.append(made_heap(need, things))
    return heaps


def greater_heaps():
    chance = random.Random(42)
    heaps = []
    for again in range(200):
        need = chance.randint(5, 60)
        sizes = sorted(chance.sample(range(1, need + 4), chance.randint(1, 8 if need > 8 else 5)))
        heaps.append((need, tuple([(size, chance.choice([1, 2, 5, 30, 150])) for size in sizes])))
    return heaps


class MadeTest(unittest.TestCase):
    def test_written_out(self):
        self.assertEqual(made_ahead((1, ())), ())
        self.assertEqual(made_ahead((7, ((2, 3), (5, 4), (9, 1)))), (((2, 5), 3), ((9,), 1)))
        # 8 and 1 and 1, then 6 and 1 and 3, then 4 and 3 and 4.
        self.assertEqual(
            made_ahead((10, ((1, 3), (3, 2), (4, 3), (6, 1), (8, 1)))),
            (((1, 1, 8), 1), ((1, 3, 6), 1), ((3, 4, 4), 1)),
        )
        # The second lot isn't lean: 5, 1, and 9 behind these.
        self.assertEqual(made_ahead((10, ((1, 1), (5, 1), (9, 2)))), (((1, 9), 1), ((5, 9), 1)))
        self.assertEqual(made_ahead((12, ((1, 2), (9, 2)))), (((1, 1, 9, 9), 1),))

    def test_at_the_need_and_above_it(self):
        heap = (10, ((10, 2), (11, 1), (GREATEST, 4)))
        self.assertEqual(made_ahead(heap), (((10,), 2), ((11,), 1), ((GREATEST,), 4)))
        self.assertEqual(made_ahead((10, ((9, 1), (10, 1)))), (((10,), 1),))
        self.assertEqual(made_ahead((10, ((1, 1), (9, 1), (10, 1)))), (((1, 9), 1), ((10,), 1)))
        self.assertEqual(made_ahead((GREATEST, ((GREATEST, GREATEST),))), (((GREATEST,), GREATEST),))

    def test_thing_by_thing(self):
        for heap in small_heaps() + greater_heaps():
            with self.subTest(heap=heap):
                told = made_ahead(heap)
                self.assertEqual(told, made_thing_by_thing(heap))
                self.assertIs(filling_holds(heap, told), True)
                self.assertEqual(made_ahead(heap), told)
                self.assertIsInstance(told, tuple)

    def test_great_counts(self):
        self.assertEqual(made_ahead((10, ((3, GREATEST), (7, GREATEST)))), (((3, 7), GREATEST),))
        # Behind five lots with 9 there are just ten things in each lot.
        self.assertEqual(
            made_ahead((10, ((1, GREATEST), (9, 5)))), (((1,) * 10, (GREATEST - 5) // 10), ((1, 9), 5)),
        )
        # Half of the threes are used beside sevens, the rest by fours.
        self.assertEqual(
            made_ahead((10, ((3, GREATEST), (7, GREATEST // 2)))), (((3,) * 4, GREATEST // 8), ((3, 7), GREATEST // 2)),
        )
        # 8 takes two of size 1, so that one is left, and then one of 2 as well.
        self.assertEqual(
            made_ahead((10, ((1, 10 ** 11 + 1), (2, GREATEST), (8, GREATEST)))),
            (((1, 1, 8), 5 * 10 ** 10), ((1, 2, 8), 1), ((2, 2, 2, 2, 2), 10 ** 10),
             ((2, 8), GREATEST - 5 * 10 ** 10 - 1)),
        )

    def test_great_counts_by_their_likes(self):
        # Counts so many times as great make just so many lots, where no lot is of unlike small things.
        for times in [1, 7, 10 ** 9]:
            heap = (20, ((2, 6 * times), (5, 12 * times), (14, 2 * times), (25, 3 * times)))
            self.assertEqual(
                made_ahead(heap), (((2, 2, 2, 14), 2 * times), ((5, 5, 5, 5), 3 * times), ((25,), 3 * times)),
            )

    def test_great_counts_of_eight_sizes(self):
        chance = random.Random(3)
        for again in range(60):
            need = chance.choice([100, 10 ** 6, GREATEST])
            sizes = sorted(chance.sample(range(need // 25, min(GREATEST, need + need // 10)), 8))
            heap = (need, tuple([(size, chance.randint(1, GREATEST)) for size in sizes]))
            told = made_ahead(heap)
            with self.subTest(heap=heap):
                self.assertIs(filling_holds(heap, told), True)
                taken = {size: 0 for size in sizes}
                for lot, times in told:
                    for size in lot:
                        taken[size] += times
                left = sum([(many - taken[size]) * size for size, many in heap[1]])
                self.assertLess(left, need)

    def test_what_is_handed_in_stays(self):
        heap = (7, ((2, 3), (5, 4), (9, 1)))
        made_ahead(heap)
        ahead_bound(heap)
        self.assertEqual(heap, (7, ((2, 3), (5, 4), (9, 1))))


class TooManyTest(unittest.TestCase):
    def refused(self, heap):
        with self.subTest(heap=heap):
            with self.assertRaises(TooMany):
                made_ahead(heap)
            with self.assertRaises(TooMany):
                ahead_bound(heap)

    def test_just_a_hundred_things(self):
        self.assertEqual(made_ahead((100, ((1, 100),))), (((1,) * 100, 1),))
        self.assertEqual(made_ahead((100, ((1, GREATEST),))), (((1,) * 100, GREATEST // 100),))
        self.assertEqual(made_ahead((199, ((1, 99), (100, 1)))), (((1,) * 99 + (100,), 1),))
        # Of 2, then 60 of size 1, then 39 of 2: just a hundred things.
        self.assertEqual(made_ahead((140, ((1, 60), (2, 45)))), (((1,) * 60 + (2,) * 40, 1),))
        self.assertEqual(ahead_bound((100, ((1, 100),))), 2)

    def test_a_hundred_and_one(self):
        self.refused((101, ((1, 101),)))
        self.refused((101, ((1, GREATEST),)))
        self.refused((200, ((1, 100), (100, 1))))
        self.refused((141, ((1, 60), (2, 45))))
        self.refused((GREATEST, ((1, GREATEST),)))
        self.refused((GREATEST, ((1, GREATEST), (2, 1))))
        self.refused((GREATEST, ((10 ** 10 - 1, 101),)))

    def test_a_later_lot(self):
        self.assertEqual(made_ahead((150, ((1, 100), (149, 1)))), (((1, 149), 1),))
        self.assertEqual(made_ahead((150, ((1, 150), (149, 1)))), (((1, 149), 1),))
        self.refused((150, ((1, 151), (149, 1))))
        self.refused((150, ((1, 150), (200, 3))))

    def test_a_begun_lot_that_never_becomes_full(self):
        self.assertEqual(made_ahead((102, ((1, 101),))), ())
        self.assertEqual(made_ahead((GREATEST, ((1, GREATEST - 1),))), ())
        self.assertEqual(made_ahead((GREATEST, ((1, GREATEST - 1), (GREATEST, 2)))), (((GREATEST,), 2),))
        self.assertEqual(ahead_bound((102, ((1, 101),))), 0)
        self.assertEqual(ahead_bound((GREATEST, ((1, GREATEST - 1),))), 0)


class BoundTest(unittest.TestCase):
    def test_written_out(self):
        self.assertEqual(ahead_bound((1, ())), 0)
        self.assertEqual(ahead_bound((GREATEST, ())), 0)
        self.assertEqual(ahead_bound((10, ((9, 1),))), 0)
        self.assertEqual(ahead_bound((10, ((11, 1),))), 2)
        self.assertEqual(ahead_bound((10, ((11, 3),))), 5)
        self.assertEqual(ahead_bound((7, ((2, 3), (5, 4), (9, 1)))), 6)
        # By the part 2 and by halves it is just the same; by the part 3 less.
        self.assertEqual(ahead_bound((10, ((5, 8),))), 6)
        self.assertEqual(ahead_bound((9, ((3, 12),))), 6)
        self.assertEqual(ahead_bound((60, ((1, 600),))), 11)
        self.assertEqual(ahead_bound((100, ((1, 1000),))), 11)
        self.assertEqual(ahead_bound((1, ((1, GREATEST),))), (3 * GREATEST + 1) // 2)

    def test_the_lesser_of_both(self):
        for heap in small_heaps() + greater_heaps():
            count = count_of(made_thing_by_thing(heap))
            k = part_reckoned(heap)
            with self.subTest(heap=heap):
                bound = ahead_bound(heap)
                self.assertEqual(bound, min((3 * count + 1) // 2, ((k + 1) * count + k - 1) // k))

    def test_twice_and_k_times_the_most(self):
        for heap in small_heaps():
            most = most_sought(heap)
            count = count_of(made_ahead(heap))
            with self.subTest(heap=heap):
                self.assertLessEqual(count, most)
                self.assertLessEqual(2 * most, 3 * count + 1)
                for k in range(1, 61):
                    if all([k * size <= heap[0] for size, many in heap[1]]):
                        self.assertLessEqual(k * most, (k + 1) * count + k - 1)
                self.assertLessEqual(most, ahead_bound(heap))

    def test_the_bound_is_met(self):
        met = [heap for heap in small_heaps() if most_sought(heap) == ahead_bound(heap) > count_of(made_ahead(heap))]
        self.assertGreater(len(met), 0)


if __name__ == "__main__":
    unittest.main()
