"""Steps: points 4, 11 and 12."""

import fractions
import itertools
import math
import unittest

from brimyard.ladders import bound_of, ladder_holds
from brimyard.steps import best_steps, steps_of
from tests.samples import GREATEST
from tests.searches import most_sought

HEAPS = [
    (1, ()),
    (GREATEST, ()),
    (1, ((1, 1),)),
    (1, ((1, 3), (2, 1), (GREATEST, GREATEST))),
    (2, ((1, 5), (2, 2), (3, 1))),
    (10, ((3, 4), (5, 2), (7, 1))),
    (60, ((1, 59),)),
    (60, ((1, 60),)),
    (60, ((1, 7), (2, 1), (30, 2), (59, 1), (60, 1), (61, 1))),
    (61, ((1, 400), (60, 3), (61, 2), (62, 1))),
    (97, ((13, 5), (29, 8), (48, 3), (49, 1), (96, 2), (97, 2), (98, 4), (970, 1))),
    (GREATEST, ((1, GREATEST), (GREATEST - 1, GREATEST), (GREATEST, GREATEST))),
    (GREATEST, ((GREATEST // 3, 2), (GREATEST // 3 + 1, 2), (GREATEST // 2, 1), (GREATEST // 2 + 1, GREATEST))),
    (GREATEST - 1, tuple([(10 ** (4 + place), 3 + place) for place in range(8)])),
    (999999999989, ((1, 1), (16666666666, 7), (16666666667, 59), (999999999988, 1), (999999999989, 1))),
]


def weights_reckoned(heap, k):
    need, kinds = heap
    return [min(k, math.ceil(fractions.Fraction(k * size, need))) for size, many in kinds]


def bound_reckoned(heap, k):
    weights = weights_reckoned(heap, k)
    return math.floor(fractions.Fraction(sum([many * w for (size, many), w in zip(heap[1], weights)]), k))


class StepsTest(unittest.TestCase):
    def test_each_k(self):
        for heap in HEAPS:
            for k in range(1, 61):
                with self.subTest(heap=heap, k=k):
                    bottom, weights, ladder = steps_of(heap, k)
                    self.assertEqual(bottom, k)
                    self.assertEqual(weights, tuple(weights_reckoned(heap, k)))
                    wanted = [math.floor(fractions.Fraction(place * heap[0], k)) for place in range(k)]
                    self.assertEqual(ladder, tuple(wanted))

    def test_it_holds(self):
        for heap in HEAPS:
            for k in range(1, 61):
                with self.subTest(heap=heap, k=k):
                    self.assertIs(ladder_holds(heap, steps_of(heap, k)), True)

    def test_written_out(self):
        heap = (10, ((1, 4), (5, 2), (6, 1), (10, 1), (11, 1)))
        self.assertEqual(steps_of(heap, 1), (1, (1, 1, 1, 1, 1), (0,)))
        self.assertEqual(steps_of(heap, 2), (2, (1, 1, 2, 2, 2), (0, 5)))
        self.assertEqual(steps_of(heap, 3), (3, (1, 2, 2, 3, 3), (0, 3, 6)))
        self.assertEqual(steps_of((1, ()), 1), (1, (), (0,)))
        self.assertEqual(steps_of((7, ()), 3), (3, (), (0, 2, 4)))
        self.assertEqual(steps_of((1, ((GREATEST, 1),)), 60), (60, (60,), (0,) * 60))

    def test_somewhat_beyond_sixty(self):
        self.assertEqual(steps_of((61, ((1, 1), (61, 1))), 61), (61, (1, 61), tuple(range(61))))


class BestTest(unittest.TestCase):
    def test_reckoned_in_another_way(self):
        for heap in HEAPS:
            with self.subTest(heap=heap):
                bounds = [bound_reckoned(heap, k) for k in range(1, 61)]
                self.assertEqual(best_steps(heap), (min(bounds), bounds.index(min(bounds)) + 1))

    def test_written_out(self):
        self.assertEqual(best_steps((60, ((1, 59),))), (0, 60))
        self.assertEqual(best_steps((60, ((1, 60),))), (1, 31))
        self.assertEqual(best_steps((10, ((10, 4),))), (4, 1))
        self.assertEqual(best_steps((10, ((5, 7),))), (3, 2))
        self.assertEqual(best_steps((10, ((5, GREATEST), (10, GREATEST)))), (GREATEST + GREATEST // 2, 2))

    def test_without_things(self):
        self.assertEqual(best_steps((1, ())), (0, 1))
        self.assertEqual(best_steps((GREATEST, ())), (0, 1))

    def test_the_most_is_not_above_it(self):
        for need in range(1, 14):
            for manies in itertools.product([0, 1, 2], repeat=4):
                kinds = tuple([(size, many) for size, many in zip([2, 3, 5, 8], manies) if many > 0])
                heap = (need, kinds)
                bound, k = best_steps(heap)
                with self.subTest(heap=heap):
                    self.assertEqual(bound_of(heap, steps_of(heap, k)), bound)
                    self.assertLessEqual(most_sought(heap), bound)


if __name__ == "__main__":
    unittest.main()
