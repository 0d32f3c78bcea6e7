"""Greatest first: points 2 and 29."""

import random
import unittest

from brimyard.errors import TooFew, TooMany
from brimyard.greatest import greatest_first
from brimyard.heaps import made_heap, things_of
from brimyard.stair import stair_of
from tests.samples import GREATEST


def laid_one_by_one(things, number):
    """Each thing, from the greatest on, goes to the first of the lots with the least sum."""
    lots = [()] * number
    for size in sorted(things, reverse=True):
        place = min(range(number), key=lambda at: (sum(lots[at]), at))
        lots[place] += (size,)
    return [tuple(sorted(lot)) for lot in lots]


def some_heaps():
    chance = random.Random(29)
    heaps = [(1, ()), (1, ((5, 1),)), (9, ((3, 100),)), (7, ((GREATEST, 100),)), (7, ((1, 50), (GREATEST, 50)))]
    for again in range(80):
        sizes = chance.sample(range(1, chance.choice([9, 30, GREATEST])), chance.randint(1, 8))
        things = [chance.choice(sizes) for place in range(chance.choice([3, 10, 30, 100]))]
        heaps.append(made_heap(chance.choice([1, 10, GREATEST]), things))
    return heaps


class GreatestTest(unittest.TestCase):
    def test_written_out(self):
        heap = (7, ((2, 3), (5, 4), (9, 1)))
        self.assertEqual(greatest_first(heap, 1), [(2, 2, 2, 5, 5, 5, 5, 9)])
        # 9, 5, 5, then 5 and 5, then 2 to the first, behind these twice to the first of 10.
        self.assertEqual(greatest_first(heap, 3), [(2, 9), (2, 5, 5), (2, 5, 5)])
        self.assertEqual(greatest_first(heap, 8), [(9,), (5,), (5,), (5,), (5,), (2,), (2,), (2,)])

    def test_ties_go_to_the_first_lot(self):
        self.assertEqual(greatest_first((1, ((4, 4),)), 3), [(4, 4), (4,), (4,)])
        self.assertEqual(greatest_first((1, ((4, 5),)), 3), [(4, 4), (4, 4), (4,)])
        self.assertEqual(greatest_first((1, ((1, 1), (2, 1), (3, 1))), 2), [(3,), (1, 2)])
        self.assertEqual(greatest_first((1, ((1, 2), (2, 1), (3, 1))), 2), [(1, 3), (1, 2)])

    def test_one_by_one(self):
        for heap in some_heaps():
            things = things_of(heap)
            for number in sorted({1, 2, 3, 5, 12, len(things) - 1, len(things)}):
                if 1 <= number <= len(things):
                    with self.subTest(heap=heap, number=number):
                        told = greatest_first(heap, number)
                        self.assertIsInstance(told, list)
                        self.assertEqual(told, laid_one_by_one(things, number))
                        self.assertEqual(len(told), number)
                        self.assertNotIn((), told)
                        self.assertEqual(sorted([size for lot in told for size in lot]), things)

    def test_the_need_changes_nothing(self):
        for heap in some_heaps()[2:20]:
            for need in [1, 3, 100, GREATEST]:
                for number in [1, 2, 3]:
                    self.assertEqual(greatest_first((need, heap[1]), number), greatest_first(heap, number))

    def test_against_the_stair(self):
        chance = random.Random(30)
        for again in range(120):
            sizes = [chance.randint(1, chance.choice([4, 10, 1000])) for place in range(chance.randint(1, 8))]
            heap = made_heap(1, sizes)
            for place, need in enumerate(stair_of(heap)):
                m = place + 1
                r = min([sum(lot) for lot in greatest_first(heap, m)])
                with self.subTest(heap=heap, m=m):
                    self.assertLessEqual(r, need)
                    self.assertGreaterEqual((4 * m - 2) * r, (3 * m - 1) * need)

    def test_where_the_inequality_is_met(self):
        # Two lots of 6, where 3, 3, 2, 2, 2 are laid to 7 and 5: 6 times 5 is 5 times 6.
        heap = (1, ((2, 3), (3, 2)))
        self.assertEqual(stair_of(heap)[1], 6)
        self.assertEqual(min([sum(lot) for lot in greatest_first(heap, 2)]), 5)

    def test_lists_are_the_askers_own(self):
        heap = (1, ((4, 4),))
        told = greatest_first(heap, 3)
        told.append(())
        told[0] = ()
        self.assertEqual(greatest_first(heap, 3), [(4, 4), (4,), (4,)])
        self.assertEqual(heap, (1, ((4, 4),)))


class RefusalTest(unittest.TestCase):
    def test_just_a_hundred_things(self):
        self.assertEqual(greatest_first((1, ((GREATEST, 100),)), 100), [(GREATEST,)] * 100)
        self.assertEqual(greatest_first((1, ((GREATEST, 100),)), 1), [(GREATEST,) * 100])

    def test_above_a_hundred(self):
        for heap in [(1, ((1, 101),)), (1, ((1, 50), (2, 51))), (1, ((1, GREATEST),)), (5, ((GREATEST, GREATEST),))]:
            for number in [1, 100, 101, 102, 10 ** 13, 10 ** 60 - 1]:
                with self.subTest(heap=heap, number=number), self.assertRaises(TooMany):
                    greatest_first(heap, number)

    def test_fewer_things_than_lots(self):
        for heap, number in [
            ((1, ()), 1), ((1, ((5, 1),)), 2), ((1, ((5, 2), (6, 1))), 4), ((1, ((1, 100),)), 101),
            ((1, ((1, 100),)), 10 ** 60 - 1),
        ]:
            with self.subTest(heap=heap, number=number), self.assertRaises(TooFew):
                greatest_first(heap, number)

    def test_somewhat_beyond(self):
        self.assertEqual(greatest_first((1, ((5, 2),)), 0), [])
        self.assertEqual(greatest_first((1, ()), 0), [])


if __name__ == "__main__":
    unittest.main()
