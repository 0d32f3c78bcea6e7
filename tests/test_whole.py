"""The whole program: point 4, that what the parts tell of one heap fits together; and points 2 and 3."""

import random
import unittest

from brimyard.ahead import ahead_bound, made_ahead
from brimyard.bench import Bench
from brimyard.cases import cases_hold, cases_of
from brimyard.changes import further_size, needed_sizes
from brimyard.desk import Desk
from brimyard.fillings import count_of, filling_holds
from brimyard.greatest import greatest_first
from brimyard.heaps import heap_without, made_heap, things_of
from brimyard.ladders import bound_of, ladder_holds
from brimyard.mosts import most_of, most_right
from brimyard.plans import plan_of, plan_right
from brimyard.shares import shares_of, shares_right
from brimyard.stair import full_by, stair_of
from brimyard.steps import best_steps, steps_of
from brimyard.tables import table_of
from brimyard.texts import filling_text, heap_text, read_filling, read_heap
from tests.searches import most_sought


def small_heaps():
    chance = random.Random(4)
    heaps = [(1, ()), (9, ()), (5, ((5, 1),)), (5, ((4, 1),)), (6, ((2, 3), (5, 2)))]
    for again in range(150):
        need = chance.randint(1, 20)
        greatest = chance.choice([need // 3 + 1, need, need + 3])
        sizes = [chance.randint(1, min(8, greatest)) for place in range(chance.randint(1, 8))]
        heaps.append(made_heap(need, sizes))
    for again in range(12):
        sizes = chance.sample(range(5, 40), 4)
        heaps.append(made_heap(chance.randint(20, 60), [chance.choice(sizes) for place in range(12)]))
    return heaps


class MostTest(unittest.TestCase):
    def test_one_and_the_same_most(self):
        for heap in small_heaps():
            count, filling, table = most_of(heap)
            with self.subTest(heap=heap):
                self.assertEqual(table_of(heap)[-1][0], count)
                self.assertEqual(cases_of(heap)[0], count)
                self.assertEqual(len([need for need in stair_of(heap) if need >= heap[0]]), count)
                self.assertEqual(Desk().say(heap_text(heap)), "ok")
                if len(things_of(heap)) <= 8:
                    self.assertEqual(most_sought(heap), count)

    def test_what_is_made_is_at_most_the_most(self):
        chance = random.Random(5)
        for heap in small_heaps():
            most = most_of(heap)[0]
            things = things_of(heap)
            chance.shuffle(things)
            bench = Bench(heap[0])
            for size in things:
                bench.put(size)
            with self.subTest(heap=heap):
                self.assertLessEqual(len(bench.shut_lots()), most)
                self.assertLessEqual(most, 2 * len(bench.shut_lots()))
                self.assertLessEqual(most, bench.bound_so())
                self.assertLessEqual(count_of(made_ahead(heap)), most)
                if things:
                    self.assertLessEqual(count_of(plan_of(heap)[1]), most)

    def test_the_most_is_at_most_the_bounds(self):
        for heap in small_heaps():
            most = most_of(heap)[0]
            total, shares, prices = shares_of(heap)
            with self.subTest(heap=heap):
                self.assertLessEqual(most, best_steps(heap)[0])
                self.assertLessEqual(most, total[0] // total[1])
                self.assertLessEqual(most, ahead_bound(heap))
                self.assertLessEqual(2 * most, 3 * count_of(made_ahead(heap)) + 1)
                for k in [1, 2, 3, 7, 60]:
                    self.assertIs(ladder_holds(heap, steps_of(heap, k)), True)
                    self.assertLessEqual(most, bound_of(heap, steps_of(heap, k)))

    def test_great_counts_are_filled_nearly_to_the_sum(self):
        for heap in small_heaps():
            for times in [1, 10, 10 ** 10]:
                great = (heap[0], tuple([(size, many * times) for size, many in heap[1]]))
                if heap[1]:
                    total, filling, prices = plan_of(great)
                    self.assertGreaterEqual(count_of(filling), total[0] // total[1] - len(heap[1]) + 1)

    def test_judges_let_by_what_is_told(self):
        for heap in small_heaps():
            with self.subTest(heap=heap):
                self.assertIs(most_right(heap, most_of(heap)), True)
                self.assertIs(shares_right(heap, shares_of(heap)), True)
                self.assertIs(cases_hold(heap, *cases_of(heap)), True)
                if heap[1]:
                    self.assertIs(plan_right(heap, plan_of(heap)), True)

    def test_what_changes_the_most(self):
        for heap in small_heaps():
            most = most_of(heap)[0]
            with self.subTest(heap=heap):
                for size, many in heap[1]:
                    less = most_of(heap_without(heap, (size,)))[0]
                    self.assertEqual(less, most - (size in needed_sizes(heap)))
                self.assertEqual(count_of(further_size(heap)[1]), most + 1)

    def test_the_stair_and_greatest_first(self):
        for heap in small_heaps()[:60]:
            for place, need in enumerate(stair_of(heap)):
                least = min([sum(lot) for lot in greatest_first(heap, place + 1)])
                self.assertLessEqual(least, need)
                self.assertEqual(full_by(heap, place + 1)[0], need)
                self.assertGreaterEqual(most_of((least, heap[1]))[0], place + 1)


class TextTest(unittest.TestCase):
    def test_what_is_told_is_written_and_read(self):
        for heap in small_heaps():
            self.assertEqual(read_heap(heap_text(heap)), heap)
            for filling in [most_of(heap)[1], made_ahead(heap), plan_of(heap)[1]]:
                self.assertEqual(read_filling(filling_text(filling)), filling)
                self.assertIs(filling_holds(heap, read_filling(filling_text(filling))), True)


if __name__ == "__main__":
    unittest.main()
