"""The most: points 2, 10, 15 and 16."""

import random
import unittest

from brimyard.errors import TooMany
from brimyard.fillings import count_of, filling_holds
from brimyard.lots import is_lean
from brimyard.mosts import most_of, most_right
from brimyard.tables import table_of
from tests.samples import GREATEST
from tests.searches import most_sought

HEAPS = [
    (1, ()),
    (GREATEST, ()),
    (1, ((1, 1),)),
    (2, ((1, 1),)),
    (1, ((1, 3), (GREATEST, 2))),
    (10, ((3, 4), (5, 2), (7, 1))),
    (10, ((2, 3), (4, 2), (6, 2))),
    (14, ((1, 3), (5, 3), (7, 3), (12, 3))),
    (20, ((1, 1), (2, 1), (3, 1), (5, 1), (8, 1), (13, 1), (19, 1), (21, 1))),
    (100, ((1, 2), (2, 2), (3, 2))),
    (GREATEST, ((GREATEST // 3, 2), (GREATEST // 3 + 1, 2), (GREATEST // 2, 2))),
]
JUST_SIXTY = (9, ((2, 30), (5, 30)))
JUST_WAYS = (9, ((1, 4), (2, 4), (3, 4), (4, 3), (5, 3)))


def small_heaps():
    chance = random.Random(16)
    heaps = []
    for again in range(120):
        sizes = sorted(chance.sample(range(1, 14), chance.randint(1, 5)))
        heaps.append((chance.randint(1, 16), tuple([(size, chance.randint(1, 2)) for size in sizes])))
    return heaps


class MostOfTest(unittest.TestCase):
    def judged(self, heap):
        told = most_of(heap)
        self.assertIsInstance(told, tuple)
        count, filling, table = told
        self.assertIsInstance(filling, tuple)
        self.assertTrue(all([is_lean(heap[0], lot) for lot, times in filling]))
        self.assertIs(filling_holds(heap, filling), True)
        self.assertEqual(count_of(filling), count)
        self.assertEqual(table, table_of(heap))
        self.assertEqual(table[-1][0], count)
        self.assertIs(most_right(heap, told), True)
        self.assertEqual(most_of(heap), told)
        return count

    def test_against_a_search(self):
        for heap in HEAPS + small_heaps():
            with self.subTest(heap=heap):
                self.assertEqual(self.judged(heap), most_sought(heap))

    def test_written_out(self):
        self.assertEqual(most_of((1, ())), (0, (), ((0, 0),)))
        self.assertEqual(most_of((2, ((1, 1),))), (0, (), ((0, 0), (0, 1))))
        self.assertEqual(most_of((2, ((1, 2),))), (1, (((1, 1), 1),), ((0, 0), (0, 1), (1, 0))))
        self.assertEqual(most_of((2, ((3, 2),))), (2, (((3,), 2),), ((0, 0), (1, 0), (2, 0))))

    def test_just_at_the_bounds(self):
        self.assertEqual(self.judged(JUST_SIXTY), 22)
        self.assertEqual(self.judged((60, ((1, 60),))), 1)
        self.assertEqual(self.judged((61, ((1, 60),))), 0)
        self.assertEqual(self.judged(JUST_WAYS), 5)

    def test_sixty_things_as_a_lot(self):
        self.assertEqual(most_of((60, ((1, 60),)))[1], (((1,) * 60, 1),))

    def test_what_is_handed_in_stays(self):
        heap = (5, ((2, 1), (3, 1)))
        told = most_of(heap)
        most_right(heap, told)
        self.assertEqual(heap, (5, ((2, 1), (3, 1))))
        self.assertEqual(told, (1, (((2, 3), 1),), ((0, 0), (0, 3), (0, 2), (1, 0))))


class RightTest(unittest.TestCase):
    HEAP = (5, ((2, 2), (3, 2)))
    TABLE = ((0, 0), (0, 3), (1, 0), (0, 2), (1, 0), (1, 3), (0, 4), (1, 2), (2, 0))
    FILLING = (((2, 3), 2),)

    def right(self, told, heap=HEAP):
        with self.subTest(told=told):
            self.assertIs(most_right(heap, told), True)

    def wrong(self, told, heap=HEAP):
        with self.subTest(told=told):
            self.assertIs(most_right(heap, told), False)

    def test_right(self):
        self.assertEqual(table_of(self.HEAP), self.TABLE)
        self.right((2, self.FILLING, self.TABLE))
        self.right((0, (), ((0, 0),)), (1, ()))

    def test_a_filling_that_is_not_lean(self):
        heap = (5, ((2, 2), (3, 3)))
        self.right((2, (((2, 3), 1), ((2, 3, 3), 1)), table_of(heap)), heap)
        self.right((2, (((2, 3), 1), ((3, 3), 1)), table_of(heap)), heap)
        heap = (5, ((2, 1), (7, 1)))
        self.right((1, (((2, 7), 1),), table_of(heap)), heap)

    def test_a_greater_table_that_holds(self):
        self.right((2, self.FILLING, self.TABLE[:-1] + ((2, 4),)))
        self.right((2, self.FILLING, self.TABLE[:-1] + ((2, 10 ** 59),)))
        self.right((2, self.FILLING, self.TABLE[:6] + ((0, 4), (1, 4), (2, 2))))
        self.right((0, (), ((0, 3),)), (1, ()))

    def test_a_count_one_more_or_less(self):
        for count in [1, 3, 0, -2, 10 ** 59]:
            self.wrong((count, self.FILLING, self.TABLE))
        self.wrong((1, (((2, 3), 1),), self.TABLE))
        self.wrong((3, self.FILLING, self.TABLE[:-1] + ((3, 0),)))
        self.wrong((0, (), self.TABLE))
        self.wrong((-1, (), ((0, 0),)), (1, ()))
        self.wrong((1, (), ((1, 0),)), (1, ()))

    def test_a_filling_of_another_count(self):
        self.wrong((2, (((2, 3), 1),), self.TABLE))
        self.wrong((2, (), self.TABLE))

    def test_a_filling_that_does_not_hold(self):
        for filling in [
            (((2, 3), 1), ((2, 3), 1)), (((2, 3), 1), ((3, 3), 1)), (((3, 2), 2),), (((2, 2), 1), ((3, 3), 1)),
            (((2, 3), 1), ((5,), 1)), (((2, 3), 3), ((3, 3), -1)), (((), 1), ((2, 3), 1)), (((3, 3), 1), ((2, 3), 1)),
        ]:
            self.wrong((2, filling, self.TABLE))

    def test_a_table_that_does_not_hold(self):
        for place, (bins, lying) in enumerate(self.TABLE):
            self.wrong((2, self.FILLING, self.TABLE[:place] + ((bins, lying - 1),) + self.TABLE[place + 1:]))
            self.wrong((2, self.FILLING, self.TABLE[:place] + ((bins - 1, lying),) + self.TABLE[place + 1:]))
        self.wrong((2, self.FILLING, ((0, 0),) * 8 + ((2, 0),)))

    def test_a_table_too_short_or_too_long(self):
        self.wrong((2, self.FILLING, ()))
        self.wrong((2, self.FILLING, self.TABLE[:-1]))
        self.wrong((2, self.FILLING, self.TABLE[1:]))
        self.wrong((2, self.FILLING, self.TABLE + ((2, 0),)))
        self.wrong((2, self.FILLING, self.TABLE + ((2, 0),) * 3000))
        self.wrong((0, (), ()), (1, ()))

    def test_a_last_pair_with_other_bins(self):
        self.wrong((2, self.FILLING, self.TABLE[:-1] + ((3, 0),)))
        self.wrong((2, self.FILLING, tuple([(bins + 1, lying) for bins, lying in self.TABLE])))
        self.wrong((0, (), ((1, 0),)), (1, ()))


class TooManyTest(unittest.TestCase):
    def refused(self, heap):
        with self.subTest(heap=heap):
            with self.assertRaises(TooMany):
                most_of(heap)
            for told in [(0, (), ()), (0, (), ((0, 0),)), (-1, (((), 0),), ((-1, -1),))]:
                with self.assertRaises(TooMany):
                    most_right(heap, told)

    def test_more_than_sixty_things(self):
        self.refused((9, ((2, 61),)))
        self.refused((9, ((2, 31), (5, 30))))
        self.refused((9, ((2, GREATEST),)))

    def test_more_than_two_thousand_ways(self):
        # 3 times 23 times 29 is 2001.
        self.refused((9, ((1, 2), (2, 22), (3, 28))))
        self.refused((9, tuple([(size, 2) for size in range(1, 9)])))


if __name__ == "__main__":
    unittest.main()
