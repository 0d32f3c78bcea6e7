"""Tables: points 2, 15 and, for the least table, 16."""

import itertools
import random
import unittest

from brimyard.errors import TooMany
from brimyard.tables import table_holds, table_of, ways_of
from tests.samples import GREATEST
from tests.searches import fullest_sought

HEAPS = [
    (1, ()),
    (GREATEST, ()),
    (1, ((1, 1),)),
    (1, ((1, 3), (GREATEST, 2))),
    (10, ((3, 4), (5, 2), (7, 1))),
    (10, ((2, 3), (4, 2), (6, 2))),
    (7, ((3, 2), (4, 2), (7, 1), (9, 1))),
    (20, ((1, 1), (2, 1), (3, 1), (5, 1), (8, 1), (13, 1), (19, 1), (21, 1))),
    (100, ((1, 2), (2, 2), (3, 2))),
    (GREATEST, ((GREATEST // 3, 2), (GREATEST // 3 + 1, 2), (GREATEST // 2, 2))),
    (4, ((1, 60),)),
]

JUST_SIXTY = (9, ((2, 30), (5, 30)))
# Just two thousand ways: 5 times 5 times 5 times 4 times 4.
JUST_WAYS = (9, ((1, 4), (2, 4), (3, 4), (4, 3), (5, 3)))


def small_heaps():
    chance = random.Random(16)
    heaps = []
    for again in range(60):
        sizes = sorted(chance.sample(range(1, 14), chance.randint(1, 4)))
        heaps.append((chance.randint(1, 16), tuple([(size, chance.randint(1, 2)) for size in sizes])))
    return heaps


def ways_reckoned(heap):
    return list(itertools.product(*[range(many + 1) for size, many in heap[1]]))


def heap_of_way(heap, way):
    return (heap[0], tuple([(size, taken) for (size, many), taken in zip(heap[1], way) if taken > 0]))


def made_of(need, pair, size):
    if pair[1] + size >= need:
        return (pair[0] + 1, 0)
    return (pair[0], pair[1] + size)


def table_reckoned(heap):
    """The least table, reckoned forward: each way raises the ways with one thing more."""
    pairs = {way: (0, 0) for way in ways_reckoned(heap)}
    for way in ways_reckoned(heap):
        for place, (size, many) in enumerate(heap[1]):
            if way[place] < many:
                more = way[:place] + (way[place] + 1,) + way[place + 1:]
                pairs[more] = max(pairs[more], made_of(heap[0], pairs[way], size))
    return tuple([pairs[way] for way in ways_reckoned(heap)])


class WaysTest(unittest.TestCase):
    def test_rising(self):
        for heap in HEAPS + [JUST_SIXTY, JUST_WAYS]:
            with self.subTest(heap=heap):
                told = ways_of(heap)
                self.assertIsInstance(told, list)
                self.assertEqual(told, sorted(set(told)))
                self.assertEqual(told, ways_reckoned(heap))

    def test_written_out(self):
        self.assertEqual(ways_of((1, ())), [()])
        self.assertEqual(ways_of((5, ((2, 1), (3, 2)))), [(0, 0), (0, 1), (0, 2), (1, 0), (1, 1), (1, 2)])

    def test_a_list_of_its_own(self):
        heap = (5, ((2, 1), (3, 1)))
        told = ways_of(heap)
        told.clear()
        told.append("changed")
        self.assertEqual(ways_of(heap), [(0, 0), (0, 1), (1, 0), (1, 1)])
        self.assertEqual(table_of(heap), ((0, 0), (0, 3), (0, 2), (1, 0)))
        self.assertEqual(heap, (5, ((2, 1), (3, 1))))


class TableOfTest(unittest.TestCase):
    def test_written_out(self):
        self.assertEqual(table_of((1, ())), ((0, 0),))
        self.assertEqual(table_of((5, ((2, 1), (3, 2)))), ((0, 0), (0, 3), (1, 0), (0, 2), (1, 0), (1, 3)))
        self.assertEqual(table_of((4, ((1, 6),))), ((0, 0), (0, 1), (0, 2), (0, 3), (1, 0), (1, 1), (1, 2)))
        self.assertEqual(table_of((5, ((5, 1), (6, 1)))), ((0, 0), (1, 0), (1, 0), (2, 0)))
        self.assertEqual(table_of((GREATEST, ((GREATEST - 1, 2),))), ((0, 0), (0, GREATEST - 1), (1, 0)))

    def test_each_pair_is_the_greatest_that_a_last_thing_makes(self):
        for heap in HEAPS + small_heaps() + [JUST_SIXTY, JUST_WAYS]:
            with self.subTest(heap=heap):
                told = table_of(heap)
                self.assertIsInstance(told, tuple)
                self.assertEqual(told, table_reckoned(heap))
                self.assertEqual(told, table_of(heap))

    def test_bins_are_the_most_and_open_the_most_beside(self):
        for heap in small_heaps()[:25] + [(9, ((4, 1), (5, 2), (6, 1), (7, 1))), (10, ((2, 3), (4, 2), (6, 2)))]:
            for way, pair in zip(ways_of(heap), table_of(heap)):
                with self.subTest(heap=heap, way=way):
                    self.assertEqual(pair, fullest_sought(heap_of_way(heap, way)))


class HoldsTest(unittest.TestCase):
    def holds(self, heap, table):
        self.assertIs(table_holds(heap, table), True, (heap, table))

    def refused(self, heap, table):
        self.assertIs(table_holds(heap, table), False, (heap, table))

    def test_the_least_table(self):
        for heap in HEAPS + small_heaps() + [JUST_SIXTY, JUST_WAYS]:
            self.holds(heap, table_of(heap))

    def test_too_small_by_one_at_any_place(self):
        for heap in HEAPS + small_heaps()[:20]:
            table = table_of(heap)
            for place, (bins, lying) in enumerate(table):
                self.refused(heap, table[:place] + ((bins, lying - 1),) + table[place + 1:])
                self.refused(heap, table[:place] + ((bins - 1, lying),) + table[place + 1:])
                if bins > 0:
                    self.refused(heap, table[:place] + ((bins - 1, heap[0]),) + table[place + 1:])

    def test_greater_tables(self):
        heap = (5, ((2, 1), (3, 2)))
        table = ((0, 0), (0, 3), (1, 0), (0, 2), (1, 0), (1, 3))
        self.holds(heap, table[:5] + ((1, 4),))
        self.holds(heap, table[:5] + ((1, 10 ** 59),))
        self.holds(heap, table[:5] + ((2, 0),))
        self.holds(heap, table[:5] + ((10 ** 59, 0),))
        self.holds(heap, ((0, 0), (0, 4), (1, 0), (0, 2), (1, 0), (1, 3)))
        self.holds(heap, ((0, 1), (0, 4), (1, 0), (0, 3), (1, 0), (1, 3)))
        self.holds(heap, ((1, 0), (1, 3), (2, 0), (1, 2), (2, 0), (2, 3)))
        self.holds(heap, ((3, 9), (4, 0), (4, 3), (4, 0), (4, 3), (5, 0)))
        self.holds((1, ()), ((7, 9),))
        for other in HEAPS:
            self.holds(other, tuple([(bins + 3, lying) for bins, lying in table_of(other)]))

    def test_greater_at_one_place_and_too_small_behind(self):
        heap = (5, ((2, 1), (3, 2)))
        self.refused(heap, ((0, 1), (0, 3), (1, 0), (0, 2), (1, 0), (1, 3)))
        self.refused(heap, ((0, 0), (0, 3), (1, 0), (0, 3), (1, 0), (1, 2)))
        self.refused(heap, ((0, 0), (0, 3), (1, 1), (0, 2), (1, 2), (1, 4)))
        self.refused(heap, ((0, 0), (0, 3), (2, 0), (0, 2), (1, 0), (1, 9)))
        self.refused((4, ((1, 2),)), ((0, 3), (0, 4), (1, 0)))

    def test_too_short_or_too_long(self):
        for heap in HEAPS:
            table = table_of(heap)
            self.refused(heap, table[:-1])
            self.refused(heap, ())
            self.refused(heap, table + (table[-1],))
            self.refused(heap, table + ((9, 9),) * 3000)

    def test_numbers_below_nought(self):
        self.refused((1, ()), ((-1, 0),))
        self.refused((1, ()), ((0, -1),))
        self.refused((1, ()), ((5, -1),))
        self.refused((1, ()), ((-1, 5),))
        heap = (5, ((2, 1), (3, 1)))
        self.holds(heap, ((0, 0), (1, 0), (1, 0), (2, 0)))
        self.refused(heap, ((0, 0), (1, 0), (1, 0), (2, -1)))
        self.refused(heap, ((0, 0), (1, -1), (1, 0), (2, 0)))
        self.refused(heap, ((-1, 0), (1, 0), (1, 0), (2, 0)))

    def test_what_is_handed_in_stays(self):
        heap = (5, ((2, 1), (3, 1)))
        table = ((0, 0), (0, 3), (0, 2), (1, 0))
        table_holds(heap, table)
        self.assertEqual((heap, table), ((5, ((2, 1), (3, 1))), ((0, 0), (0, 3), (0, 2), (1, 0))))


class TooManyTest(unittest.TestCase):
    def refused(self, heap):
        with self.subTest(heap=heap):
            with self.assertRaises(TooMany):
                ways_of(heap)
            with self.assertRaises(TooMany):
                table_of(heap)
            for table in [(), ((0, 0),), ((-1, -1),)]:
                with self.assertRaises(TooMany):
                    table_holds(heap, table)

    def test_just_sixty_things(self):
        for heap in [(9, ((2, 60),)), JUST_SIXTY, (9, ((1, 1), (2, 2), (5, 57)))]:
            self.assertEqual(sum([many for size, many in heap[1]]), 60)
            self.assertIs(table_holds(heap, table_of(heap)), True)

    def test_more_than_sixty_things(self):
        self.refused((9, ((2, 61),)))
        self.refused((9, ((2, 31), (5, 30))))
        self.refused((9, ((1, 1), (2, 2), (5, 58))))
        self.refused((9, ((2, GREATEST),)))

    def test_just_two_thousand_ways(self):
        for heap in [JUST_WAYS, (9, ((1, 1), (2, 1), (3, 1), (4, 1), (5, 4), (6, 4), (7, 4)))]:
            self.assertEqual(len(ways_of(heap)), 2000)
            self.assertIs(table_holds(heap, table_of(heap)), True)

    def test_more_than_two_thousand_ways(self):
        # 3 times 23 times 29 is 2001.
        self.refused((9, ((1, 2), (2, 22), (3, 28))))
        self.refused((9, ((1, 4), (2, 4), (3, 4), (4, 3), (5, 4))))
        self.refused((9, tuple([(size, 2) for size in range(1, 9)])))
        self.refused((9, ((1, 20), (2, 20), (5, 3), (7, 3), (8, 14))))
        self.refused((9, tuple([(size, GREATEST) for size in range(1, 9)])))


if __name__ == "__main__":
    unittest.main()
