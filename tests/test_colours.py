"""Colours: points 2, 30 and 31."""

import functools
import itertools
import random
import unittest

from brimyard.colours import most_bins, wheel_of, wheel_right

GREAT = 10 ** 60


@functools.lru_cache(maxsize=None)
def bins_sought(counts, d):
    """The most bins by filling bin after bin in all ways; the counts are sorted."""
    having = [colour for colour, many in enumerate(counts) if many > 0]
    best = 0
    for chosen in itertools.combinations(having, d):
        left = tuple(sorted([many - (colour in chosen) for colour, many in enumerate(counts)]))
        best = max(best, 1 + bins_sought(left, d))
    return best


def enough(counts, d, bins):
    """Whether the counts, each but at most the bins, come to d for each."""
    return sum([min(many, bins) for many in counts]) >= d * bins


def small_counts():
    chance = random.Random(30)
    told = [[0], [1], [3], [0, 0], [0] * 12, [1] * 12, [5, 1, 1, 0, 2], [3, 3, 3], [2, 2, 1], [9, 1, 1]]
    for again in range(150):
        told.append([chance.randint(0, chance.choice([2, 4])) for place in range(chance.randint(1, 5))])
    return told


def great_counts():
    chance = random.Random(31)
    told = [[GREAT], [GREAT] * 12, [GREAT, 0, GREAT - 1], [0, GREAT] * 6, list(range(12))]
    for again in range(200):
        number = chance.randint(1, 12)
        told.append([chance.randint(0, chance.choice([0, 3, 10, 10 ** 6, GREAT])) for place in range(number)])
        told.append([GREAT - chance.randint(0, 5) for place in range(number)])
    return told


class MostTest(unittest.TestCase):
    def test_written_out(self):
        self.assertEqual(most_bins([3, 3, 3], 1), 9)
        self.assertEqual(most_bins([3, 3, 3], 2), 4)
        self.assertEqual(most_bins([3, 3, 3], 3), 3)
        self.assertEqual(most_bins([3, 3, 3], 4), 0)
        self.assertEqual(most_bins([9, 1, 1], 2), 2)
        self.assertEqual(most_bins([9, 1, 1], 3), 1)
        self.assertEqual(most_bins([0], 1), 0)
        self.assertEqual(most_bins([GREAT], 1), GREAT)
        self.assertEqual(most_bins([GREAT] * 12, 1), 12 * GREAT)
        self.assertEqual(most_bins([GREAT] * 12, 12), GREAT)
        self.assertEqual(most_bins([GREAT] * 12, 5), 12 * GREAT // 5)

    def test_against_a_search(self):
        for counts in small_counts():
            for d in range(1, 7):
                with self.subTest(counts=counts, d=d):
                    self.assertEqual(most_bins(counts, d), bins_sought(tuple(sorted(counts)), d))

    def test_so_many_and_not_one_more(self):
        for counts in small_counts() + great_counts():
            for d in range(1, 13):
                with self.subTest(counts=counts, d=d):
                    bins = most_bins(counts, d)
                    self.assertGreaterEqual(bins, 0)
                    self.assertTrue(enough(counts, d, bins))
                    self.assertFalse(enough(counts, d, bins + 1))

    def test_each_fewer_can(self):
        for counts in small_counts()[:60]:
            for d in range(1, 5):
                can = [enough(counts, d, bins) for bins in range(sum(counts) + 2)]
                self.assertEqual(can, sorted(can)[::-1])
                self.assertEqual(most_bins(counts, d), sum(can) - 1)

    def test_fewer_colours_than_d(self):
        for d in range(1, 13):
            for number in range(1, 13):
                for counts in [[GREAT] * number, [1] * number, [0] * (12 - number) + [7] * number]:
                    having = len([many for many in counts if many > 0])
                    self.assertEqual(most_bins(counts, d) == 0, d > having)
                    self.assertEqual(wheel_of(counts, d) == (0, ()), d > having)

    def test_as_a_tuple_and_in_any_order(self):
        for counts in small_counts():
            for d in [1, 2, 3]:
                self.assertEqual(most_bins(tuple(counts), d), most_bins(counts, d))
                self.assertEqual(most_bins(counts[::-1], d), most_bins(counts, d))
                self.assertEqual(wheel_of(tuple(counts), d), wheel_of(counts, d))

    def test_somewhat_beyond(self):
        self.assertEqual(most_bins([], 1), 0)
        self.assertEqual(wheel_of([], 1), (0, ()))
        self.assertEqual(most_bins([2] * 14, 13), 2)
        self.assertEqual(wheel_of([2, 2], 0), (0, ()))

    def test_what_is_handed_in_stays(self):
        counts = [5, 1, 1, 0, 2]
        told = wheel_of(counts, 2)
        most_bins(counts, 2)
        wheel_right(counts, 2, told)
        self.assertEqual(counts, [5, 1, 1, 0, 2])
        counts[0] = 0
        self.assertEqual(wheel_of([5, 1, 1, 0, 2], 2), told)


class WheelTest(unittest.TestCase):
    def judged(self, counts, d):
        told = wheel_of(counts, d)
        self.assertIsInstance(told, tuple)
        bins, wheel = told
        self.assertEqual(bins, most_bins(counts, d))
        self.assertIsInstance(wheel, tuple)
        self.assertEqual(list(wheel), sorted(wheel))
        self.assertEqual(len(set([colours for colours, times in wheel])), len(wheel))
        self.assertLessEqual(len(wheel), len(counts))
        taken = [0] * len(counts)
        for colours, times in wheel:
            self.assertIsInstance(colours, tuple)
            self.assertEqual(list(colours), sorted(set(colours)))
            self.assertEqual(len(colours), d)
            self.assertGreaterEqual(times, 1)
            for colour in colours:
                self.assertGreaterEqual(colour, 0)
                taken[colour] += times
        self.assertEqual(sum([times for colours, times in wheel]), bins)
        self.assertTrue(all([one <= many for one, many in zip(taken, counts)]))
        self.assertIs(wheel_right(counts, d, told), True)
        self.assertEqual(wheel_of(counts, d), told)

    def test_all_its_parts(self):
        for counts in small_counts() + great_counts():
            for d in range(1, 13):
                with self.subTest(counts=counts, d=d):
                    self.judged(counts, d)

    def test_written_out(self):
        self.assertEqual(wheel_of([4], 1), (4, (((0,), 4),)))
        self.assertEqual(wheel_of([0, 4], 1), (4, (((1,), 4),)))
        self.assertEqual(wheel_of([2, 2, 2], 3), (2, (((0, 1, 2), 2),)))
        self.assertEqual(wheel_of([9, 1, 1], 2), (2, (((0, 1), 1), ((0, 2), 1))))
        self.assertEqual(wheel_of([0, 0], 1), (0, ()))
        self.assertEqual(wheel_of([5], 2), (0, ()))


class RightTest(unittest.TestCase):
    def right(self, counts, d, told):
        with self.subTest(counts=counts, d=d, told=told):
            self.assertIs(wheel_right(counts, d, told), True)
            self.assertIs(wheel_right(tuple(counts), d, told), True)

    def wrong(self, counts, d, told):
        with self.subTest(counts=counts, d=d, told=told):
            self.assertIs(wheel_right(counts, d, told), False)

    def test_other_right_wheels(self):
        self.right([3, 3, 3], 2, (4, (((0, 1), 2), ((0, 2), 1), ((1, 2), 1))))
        self.right([3, 3, 3], 2, (4, (((0, 1), 1), ((0, 2), 1), ((1, 2), 2))))
        self.right([3, 3, 3], 2, (4, (((0, 1), 1), ((0, 2), 2), ((1, 2), 1))))
        self.right([2, 2, 2, 2], 2, (4, (((0, 1), 2), ((2, 3), 2))))
        self.right([2, 2, 2, 2], 2, (4, (((0, 1), 1), ((0, 2), 1), ((1, 3), 1), ((2, 3), 1))))
        self.right([1, 1], 1, (2, (((0,), 1), ((1,), 1))))
        self.right([0, 0], 1, (0, ()))
        self.right([5], 2, (0, ()))
        self.right([GREAT, GREAT], 2, (GREAT, (((0, 1), GREAT),)))

    def test_the_number_by_one(self):
        wheel = (((0, 1), 2), ((0, 2), 1), ((1, 2), 1))
        for bins in [3, 5, 0, -4, GREAT]:
            self.wrong([3, 3, 3], 2, (bins, wheel))
        self.wrong([3, 3, 3], 2, (3, (((0, 1), 1), ((0, 2), 1), ((1, 2), 1))))
        self.wrong([3, 3, 3], 2, (4, (((0, 1), 1), ((0, 2), 1), ((1, 2), 1))))
        self.wrong([3, 3, 3], 2, (5, (((0, 1), 2), ((0, 2), 2), ((1, 2), 1))))
        self.wrong([3, 3, 3], 2, (0, ()))
        self.wrong([3, 3, 3], 2, (4, ()))
        self.wrong([0, 0], 1, (1, ()))
        self.wrong([0, 0], 1, (-1, ()))
        self.wrong([1, 0], 1, (0, ()))

    def test_times_of_nought_and_below(self):
        self.wrong([2, 2, 2, 2], 2, (4, (((0, 1), 2), ((0, 2), 0), ((2, 3), 2))))
        self.wrong([3, 3, 3, 3], 2, (6, (((0, 1), 4), ((0, 2), -1), ((2, 3), 3))))
        self.wrong([0, 0], 1, (0, (((0,), 0),)))
        self.wrong([0, 0], 1, (0, (((0,), -1), ((1,), 1))))

    def test_colours_that_there_are_not(self):
        self.wrong([2, 2], 2, (2, (((0, 2), 2),)))
        self.wrong([2, 2], 2, (2, (((1, 2), 2),)))
        self.wrong([2, 2], 2, (2, (((-1, 0), 2),)))
        self.wrong([2, 2], 2, (2, (((-1, 1), 2),)))
        self.wrong([2, 2], 2, (2, (((-2, -1), 2),)))
        self.wrong([2, 2], 1, (4, (((-1,), 2), ((0,), 2))))
        self.wrong([2, 2], 1, (4, (((0,), 2), ((2,), 2))))
        self.wrong([2, 2], 2, (2, (((0, GREAT), 2),)))
        self.wrong([0, 2], 1, (2, (((0,), 2),)))

    def test_colours_that_do_not_rise(self):
        self.wrong([2, 2], 2, (2, (((1, 0), 2),)))
        self.wrong([2, 2], 2, (2, (((0, 0), 1), ((1, 1), 1))))
        self.wrong([2, 2, 2], 3, (2, (((0, 2, 1), 2),)))
        self.wrong([4, 2, 2], 3, (2, (((0, 0, 1), 2),)))

    def test_another_number_of_colours(self):
        self.wrong([2, 2, 2], 2, (3, (((0,), 1), ((0, 1), 1), ((1, 2), 1))))
        self.wrong([2, 2, 2], 2, (3, (((0, 1), 1), ((0, 1, 2), 1), ((1, 2), 1))))
        self.wrong([2, 2, 2], 2, (3, (((), 3),)))
        self.wrong([1, 1], 2, (1, (((0,), 1),)))
        self.wrong([1, 1, 1], 2, (1, (((0, 1, 2), 1),)))

    def test_pairs_that_do_not_rise(self):
        self.wrong([2, 2, 2, 2], 2, (4, (((2, 3), 2), ((0, 1), 2))))
        self.wrong([3, 3, 3], 2, (4, (((0, 2), 1), ((0, 1), 2), ((1, 2), 1))))

    def test_a_pair_twice(self):
        self.wrong([2, 2, 2, 2], 2, (4, (((0, 1), 1), ((0, 1), 1), ((2, 3), 2))))
        self.wrong([2, 2, 2, 2], 2, (4, (((0, 1), 2), ((2, 3), 1), ((2, 3), 1))))
        self.wrong([4, 4], 2, (4, (((0, 1), 1), ((0, 1), 3))))

    def test_too_many_pairs(self):
        # All six pairs of four colours, and there are just four counts.
        counts = [3, 3, 3, 3]
        pairs = tuple([(chosen, 1) for chosen in itertools.combinations(range(4), 2)])
        self.wrong(counts, 2, (6, pairs))
        self.right(counts, 2, (6, (((0, 1), 2), ((0, 2), 1), ((1, 3), 1), ((2, 3), 2))))
        # Five pairs.
        self.wrong([3, 3, 3, 4], 2, (6, (((0, 1), 1), ((0, 2), 1), ((0, 3), 1), ((1, 3), 2), ((2, 3), 1))))
        self.right([3, 3, 3, 4], 2, (6, (((0, 1), 2), ((0, 3), 1), ((1, 3), 1), ((2, 3), 2))))

    def test_too_much_of_a_colour(self):
        self.wrong([3, 3, 3], 2, (4, (((0, 1), 2), ((0, 2), 2))))
        self.wrong([3, 3, 3], 2, (4, (((0, 1), 4),)))
        self.wrong([1, 3], 1, (4, (((0,), 2), ((1,), 2))))
        self.wrong([GREAT, GREAT - 1], 1, (2 * GREAT - 1, (((0,), GREAT - 1), ((1,), GREAT))))
        self.right([GREAT, GREAT - 1], 1, (2 * GREAT - 1, (((0,), GREAT), ((1,), GREAT - 1))))

    def test_great_lists(self):
        self.wrong([3, 3, 3], 2, (4, (((0, 1), 1),) * 3000))
        self.wrong([3, 3, 3], 2, (4, ((tuple(range(3000)), 4),)))


if __name__ == "__main__":
    unittest.main()
