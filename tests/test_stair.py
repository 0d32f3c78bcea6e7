"""The stair: points 2, 4, 10, 15, 16 and 28."""

import random
import unittest

from brimyard.errors import TooFew, TooMany
from brimyard.fillings import count_of, filling_holds
from brimyard.heaps import made_heap, things_of
from brimyard.mosts import most_of
from brimyard.stair import full_by, stair_of
from brimyard.tables import table_holds
from tests.samples import GREATEST
from tests.searches import most_sought


def need_sought(things, number):
    """The greatest sum of the least of so many lots, by trying all ways to put the things into them."""
    states = {(0,) * number}
    for size in things:
        grown = set()
        for state in states:
            for place in range(number):
                grown.add(tuple(sorted(state[:place] + (state[place] + size,) + state[place + 1:])))
        states = grown
    return max([state[0] for state in states])


def stair_sought(things):
    return [need_sought(things, number) for number in range(1, len(things) + 1)]


def small_heaps():
    chance = random.Random(28)
    heaps = [(1, ()), (GREATEST, ()), (1, ((1, 1),)), (GREATEST, ((1, 12),)), (3, ((5, 2), (7, 1)))]
    for again in range(80):
        greatest = chance.choice([3, 8, 100, 10 ** 10])
        sizes = [chance.randint(1, greatest) for place in range(chance.randint(1, 7))]
        heaps.append(made_heap(chance.choice([1, 5, GREATEST]), sizes))
    return heaps


def twelve_things():
    """Heaps of eleven and twelve things, up to eight sizes."""
    chance = random.Random(12)
    heaps = []
    for again in range(8):
        sizes = chance.sample(range(1, chance.choice([9, 30, 1000, GREATEST // 20])), 8)
        again_some = [chance.choice(sizes) for place in range(chance.choice([3, 4]))]
        heaps.append(made_heap(chance.randint(1, 40), sizes + again_some))
    return heaps


class StairTest(unittest.TestCase):
    def test_written_out(self):
        self.assertEqual(stair_of((7, ())), [])
        self.assertEqual(stair_of((7, ((5, 1),))), [5])
        self.assertEqual(stair_of((7, ((5, 2), (7, 1)))), [17, 7, 5])
        self.assertEqual(stair_of((7, ((2, 3), (5, 4), (9, 1)))), [35, 17, 11, 7, 5, 5, 2, 2])
        self.assertEqual(stair_of((1, ((1, 12),))), [12, 6, 4, 3, 2, 2, 1, 1, 1, 1, 1, 1])
        self.assertEqual(stair_of((1, ((1, 2), (GREATEST - 3, 1)))), [GREATEST - 1, 2, 1])

    def test_against_a_search(self):
        for heap in small_heaps():
            with self.subTest(heap=heap):
                told = stair_of(heap)
                self.assertIsInstance(told, list)
                self.assertEqual(told, stair_sought(things_of(heap)))

    def test_twelve_things_against_a_search(self):
        for heap in [(1, ((1, 4), (2, 4), (3, 4))), (9, ((2, 6), (5, 6))), (9, ((1, 3), (3, 4), (4, 3), (6, 2)))]:
            told = stair_of(heap)
            with self.subTest(heap=heap):
                self.assertEqual(len(told), 12)
                for number in [1, 2, 3, 4, 10, 11, 12]:
                    self.assertEqual(told[number - 1], need_sought(things_of(heap), number))

    def test_it_never_rises(self):
        for heap in small_heaps() + twelve_things():
            told = stair_of(heap)
            with self.subTest(heap=heap):
                self.assertEqual(told, sorted(told)[::-1])
                self.assertEqual(len(told), len(things_of(heap)))

    def test_by_any_need_the_most(self):
        for heap in small_heaps():
            stair = stair_of(heap)
            needs = [need + step for need in stair for step in [-1, 0, 1] if need + step >= 1]
            for need in sorted(set(needs + [1, 2, GREATEST])):
                by_need = (need, heap[1])
                with self.subTest(heap=by_need):
                    lots = len([one for one in stair if one >= need])
                    self.assertEqual(most_of(by_need)[0], lots)
                    if len(stair) <= 5:
                        self.assertEqual(most_sought(by_need), lots)

    def test_whatever_the_need(self):
        for heap in small_heaps()[:30]:
            for need in [1, 2, 7, GREATEST]:
                self.assertEqual(stair_of((need, heap[1])), stair_of(heap))
                if heap[1]:
                    self.assertEqual(full_by((need, heap[1]), 1), full_by(heap, 1))

    def test_lists_are_the_askers_own(self):
        heap = (7, ((5, 2), (7, 1)))
        told = stair_of(heap)
        told.append(3)
        told[0] = 0
        self.assertEqual(stair_of(heap), [17, 7, 5])
        self.assertEqual(heap, (7, ((5, 2), (7, 1))))


class FullByTest(unittest.TestCase):
    def judged(self, heap, number, need):
        told = full_by(heap, number)
        self.assertIsInstance(told, tuple)
        own, filling, table = told
        self.assertEqual(own, need)
        self.assertIsInstance(filling, tuple)
        self.assertIs(filling_holds((need, heap[1]), filling), True)
        self.assertEqual(count_of(filling), number)
        self.assertIsInstance(table, tuple)
        self.assertIs(table_holds((need + 1, heap[1]), table), True)
        self.assertLess(table[-1][0], number)
        return told

    def test_all_its_parts(self):
        # By the filling and the table the need is shown, whatever the search was.
        for heap in small_heaps() + twelve_things():
            for place, need in enumerate(stair_of(heap)):
                with self.subTest(heap=heap, number=place + 1):
                    self.judged(heap, place + 1, need)

    def test_asked_again(self):
        for heap in twelve_things()[:3]:
            for number in [1, 4, 9]:
                self.assertEqual(full_by(heap, number), full_by(heap, number))

    def test_where_more_lots_can_be_full(self):
        # By the need of five lots six are full as well.
        heap = (7, ((2, 3), (5, 4), (9, 1)))
        self.judged(heap, 5, 5)
        self.judged(heap, 6, 5)
        self.judged((1, ((4, 12),)), 7, 4)
        self.judged((1, ((4, 12),)), 12, 4)

    def test_written_out(self):
        self.assertEqual(full_by((9, ((5, 1),)), 1), (5, (((5,), 1),), ((0, 0), (0, 5))))
        self.assertEqual(full_by((9, ((5, 2),)), 2), (5, (((5,), 2),), ((0, 0), (0, 5), (1, 0))))

    def test_what_is_handed_in_stays(self):
        heap = (7, ((2, 3), (5, 4), (9, 1)))
        full_by(heap, 3)
        self.assertEqual(heap, (7, ((2, 3), (5, 4), (9, 1))))


class RefusalTest(unittest.TestCase):
    def refused(self, heap):
        with self.subTest(heap=heap):
            with self.assertRaises(TooMany):
                stair_of(heap)
            for number in [1, 2, 12, 13, 14, 10 ** 13, 10 ** 60 - 1]:
                with self.assertRaises(TooMany):
                    full_by(heap, number)

    def test_more_than_twelve_things(self):
        self.refused((1, ((1, 13),)))
        self.refused((1, ((1, GREATEST),)))
        self.refused((1, ((1, 6), (2, 7))))
        self.refused((1, tuple([(size, 2) for size in range(1, 9)])))

    def test_just_twelve_things(self):
        self.assertEqual(stair_of((1, ((1, 6), (2, 6))))[-1], 1)
        self.assertEqual(full_by((1, ((1, 12),)), 12)[0], 1)

    def test_things_that_come_to_so_much(self):
        self.refused((1, ((GREATEST, 1),)))
        self.refused((1, ((GREATEST // 2, 2),)))
        self.refused((1, ((1, 1), (GREATEST - 1, 1))))
        self.refused((1, ((GREATEST, 12),)))

    def test_things_that_come_to_one_less(self):
        self.assertEqual(stair_of((1, ((GREATEST - 1, 1),))), [GREATEST - 1])
        self.assertEqual(full_by((1, ((GREATEST - 1, 1),)), 1)[:2], (GREATEST - 1, (((GREATEST - 1,), 1),)))
        self.assertEqual(stair_of((1, ((1, 1), (GREATEST - 2, 1)))), [GREATEST - 1, 1])
        twelve = (1, (((GREATEST - 1) // 11, 11),))
        self.assertEqual(stair_of(twelve)[0], (GREATEST - 1) // 11 * 11)

    def test_fewer_things_than_lots(self):
        for heap, number in [
            ((1, ()), 1), ((1, ((5, 1),)), 2), ((1, ((5, 2), (6, 1))), 4), ((1, ((1, 12),)), 13),
            ((1, ((1, 12),)), 10 ** 60 - 1), ((GREATEST, ()), 10 ** 12),
        ]:
            with self.subTest(heap=heap, number=number), self.assertRaises(TooFew):
                full_by(heap, number)

    def test_somewhat_beyond(self):
        self.assertEqual(full_by((1, ((5, 2),)), 0)[1], ())
        self.assertEqual(full_by((1, ()), 0)[1], ())


if __name__ == "__main__":
    unittest.main()
