"""Weights with ladders: points 11 and 12."""

import itertools
import unittest

from brimyard.ladders import bound_of, ladder_holds, least_ladder
from tests.samples import GREATEST
from tests.searches import most_sought

HEAP = (10, ((3, 4), (5, 2), (7, GREATEST)))
PAPER = (3, (1, 2, 2), (0, 3, 7))


def sums_within(sizes, weights, most):
    """The sums of all choices of things of these sizes that weigh so much at most."""
    sums = []
    for numbers in itertools.product(*[range(most // weight + 1) for weight in weights]):
        if sum([number * weight for number, weight in zip(numbers, weights)]) <= most:
            sums.append(sum([number * size for number, size in zip(numbers, sizes)]))
    return sums


class HoldsTest(unittest.TestCase):
    def refused(self, paper, heap=HEAP):
        with self.subTest(paper=paper):
            self.assertIs(ladder_holds(heap, paper), False)

    def holds(self, paper, heap=HEAP):
        with self.subTest(paper=paper):
            self.assertIs(ladder_holds(heap, paper), True)

    def test_papers_that_hold(self):
        self.holds(PAPER)
        self.holds((1, (1, 1, 1), (0,)))
        self.holds((1, (1, 1, 1), (9,)))
        self.holds((3, (1, 2, 2), (0, 4, 9)))
        self.holds((3, (1, 2, 2), (1, 4, 8)))
        self.holds((2, (1, 2, 2), (0, 9)))
        self.holds((2, (2, 2, 2), (4, 4)))
        self.holds((60, (60, 60, 60), (0,) * 60))
        self.holds((60, (60, 60, 60), tuple([place // 7 for place in range(60)])))

    def test_heaps_at_the_bounds(self):
        self.holds((1, (), (0,)), (1, ()))
        self.holds((2, (), (0, 0)), (1, ()))
        self.holds((2, (), (3, 3)), (4, ()))
        eight = tuple([(GREATEST - 8 + place, GREATEST) for place in range(1, 9)])
        self.holds((2, (1,) * 7 + (2,), (0, GREATEST - 1)), (GREATEST, eight))
        self.refused((2, (1,) * 8, (0, GREATEST - 1)), (GREATEST, eight))

    def test_full_lots_weigh_the_bottom(self):
        for weights in itertools.product([1, 2, 3], repeat=2):
            for ladder in itertools.combinations_with_replacement(range(0, 9), 3):
                heap = (8, ((3, 1), (4, 1)))
                wanted = all([
                    ladder[place + weight] >= ladder[place] + size
                    for size, weight in zip([3, 4], weights) for place in range(3) if place + weight < 3
                ]) and ladder[2] < 8
                self.assertIs(ladder_holds(heap, (3, weights, ladder)), wanted)
                if wanted:
                    self.assertLess(max(sums_within([3, 4], weights, 2)), 8)

    def test_bottom_out_of_bounds(self):
        self.refused((0, (1, 1, 1), (0,)))
        self.refused((0, (1, 1, 1), ()))
        self.refused((0, (), ()), (10, ()))
        self.refused((-1, (1, 1, 1), (0,)))
        self.refused((-1, (), ()), (10, ()))
        self.refused((61, (61, 61, 61), (0,) * 61))
        self.refused((61, (), (0,) * 61), (10, ()))
        self.refused((10 ** 59, (1, 1, 1), (0,)))

    def test_weights_out_of_bounds(self):
        for weight in [0, -1, 4, 10 ** 59]:
            self.refused((3, (1, 2, weight), (0, 3, 7)))
            self.refused((3, (weight, 2, 2), (0, 3, 7)))
            self.refused((3, (1, weight, 2), (0, 3, 7)))

    def test_too_few_or_too_many_weights(self):
        self.refused((3, (), (0, 3, 7)))
        self.refused((3, (1, 2), (0, 3, 7)))
        self.refused((3, (1, 2, 2, 2), (0, 3, 7)))
        self.refused((3, (1, 2, 2) + (3,) * 5000, (0, 3, 7)))
        self.refused((1, (1,), (0,)), (10, ()))

    def test_ladder_too_short_or_too_long(self):
        self.refused((3, (1, 2, 2), ()))
        self.refused((3, (1, 2, 2), (0, 7)))
        self.refused((3, (3, 3, 3), (0, 0)))
        self.refused((3, (3, 3, 3), (0, 0, 0, 0)))
        self.refused((3, (3, 3, 3), (0,) * 5000))
        self.refused((1, (1, 1, 1), ()))

    def test_ladder_falling(self):
        self.refused((3, (3, 3, 3), (1, 0, 1)))
        self.refused((3, (3, 3, 3), (0, 1, 0)))
        self.refused((2, (2, 2, 2), (9, 8)))

    def test_ladder_below_nought(self):
        self.refused((1, (1, 1, 1), (-1,)))
        self.refused((3, (1, 2, 2), (-1, 3, 7)))
        self.refused((2, (), (-2, 0)), (10, ()))
        self.refused((3, (3, 3, 3), (-3, -2, -1)))

    def test_last_number_not_below_the_need(self):
        self.refused((3, (1, 2, 2), (0, 3, 10)))
        self.refused((3, (1, 2, 2), (0, 3, 11)))
        self.refused((1, (1, 1, 1), (10,)))
        self.refused((1, (), (1,)), (1, ()))

    def test_a_number_too_little(self):
        self.refused((3, (1, 2, 2), (0, 2, 7)))
        self.refused((3, (1, 2, 2), (0, 3, 6)))
        self.refused((3, (1, 2, 2), (1, 4, 7)))
        self.refused((3, (1, 2, 2), (0, 5, 7)))
        self.refused((3, (1, 1, 2), (0, 4, 9)))
        self.refused((3, (1, 2, 2), (0, 0, 0)))
        self.refused((3, (2, 2, 1), (0, 6, 9)))


class BoundTest(unittest.TestCase):
    def test_written_out(self):
        self.assertEqual(bound_of((10, ((3, 4), (5, 2), (7, 1))), PAPER), 3)
        self.assertEqual(bound_of((10, ((3, 5), (5, 2), (7, 1))), PAPER), 3)
        self.assertEqual(bound_of((10, ((3, 6), (5, 2), (7, 1))), PAPER), 4)
        self.assertEqual(bound_of((10, ((3, 2),)), (3, (1,), (0, 3, 6))), 0)
        self.assertEqual(bound_of((3, ((3, 2),)), (1, (1,), (0,))), 2)

    def test_without_things(self):
        self.assertEqual(bound_of((10, ()), (1, (), (0,))), 0)
        self.assertEqual(bound_of((10, ()), (60, (), (0,) * 60)), 0)

    def test_great_counts(self):
        heap = (10, ((3, GREATEST), (5, GREATEST), (7, GREATEST - 1)))
        self.assertEqual(bound_of(heap, PAPER), (5 * GREATEST - 2) // 3)
        eight = tuple([(size, GREATEST) for size in range(1, 9)])
        self.assertEqual(bound_of((10, eight), (60, (60,) * 8, (0,) * 60)), 8 * GREATEST)

    def test_no_more_lots_can_be_full(self):
        for need in range(1, 12):
            heap = (need, ((2, 2), (3, 2), (4, 1)))
            for bottom in range(1, 5):
                for weights in itertools.product(range(1, bottom + 1), repeat=3):
                    ladder = least_ladder(need, (2, 3, 4), weights, bottom)
                    if ladder is not None:
                        self.assertGreaterEqual(bound_of(heap, (bottom, weights, ladder)), most_sought(heap))


class LeastLadderTest(unittest.TestCase):
    def test_written_out(self):
        self.assertEqual(least_ladder(10, (3, 5, 7), (1, 2, 2), 3), (0, 3, 7))
        self.assertEqual(least_ladder(10, (3, 5, 7), (2, 2, 3), 4), (0, 0, 5, 7))
        self.assertEqual(least_ladder(10, (3,), (1,), 4), (0, 3, 6, 9))
        self.assertEqual(least_ladder(10, (1, 9), (1, 1), 1), (0,))
        self.assertEqual(least_ladder(1, (GREATEST,), (1,), 1), (0,))
        self.assertEqual(least_ladder(1, (GREATEST,), (60,), 60), (0,) * 60)

    def test_none_just_where_the_last_is_not_below_the_need(self):
        self.assertIsNone(least_ladder(9, (3,), (1,), 4))
        self.assertEqual(least_ladder(10, (3,), (1,), 4), (0, 3, 6, 9))
        self.assertIsNone(least_ladder(7, (3, 5, 7), (1, 2, 2), 3))
        self.assertEqual(least_ladder(8, (3, 5, 7), (1, 2, 2), 3), (0, 3, 7))
        self.assertIsNone(least_ladder(GREATEST, (GREATEST,), (1,), 2))
        self.assertIsNone(least_ladder(GREATEST, (GREATEST // 50,), (1,), 60))

    def test_sixty_and_eight(self):
        sizes = tuple([10 ** 10 + size for size in range(8)])
        ladder = least_ladder(GREATEST, sizes, (1,) * 8, 60)
        self.assertEqual(ladder, tuple([place * sizes[-1] for place in range(60)]))

    def test_against_every_choice(self):
        sizes = (2, 3, 7)
        for bottom in range(1, 6):
            for weights in itertools.product(range(1, bottom + 1), repeat=3):
                wanted = tuple([max(sums_within(sizes, weights, place)) for place in range(bottom)])
                for need in [5, 8, wanted[-1], wanted[-1] + 1, 100]:
                    told = least_ladder(need, sizes, weights, bottom)
                    self.assertEqual(told, wanted if wanted[-1] < need else None)

    def test_the_least_ladder_holds_and_no_lesser_does(self):
        for weights in itertools.product([1, 2, 3, 4], repeat=2):
            ladder = least_ladder(40, (5, 9), weights, 4)
            if ladder is not None:
                heap = (40, ((5, 1), (9, 1)))
                self.assertIs(ladder_holds(heap, (4, weights, ladder)), True)
                for place in range(4):
                    lesser = ladder[:place] + (ladder[place] - 1,) + ladder[place + 1:]
                    self.assertIs(ladder_holds(heap, (4, weights, lesser)), False)


if __name__ == "__main__":
    unittest.main()
