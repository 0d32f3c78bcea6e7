"""One thing less, one more: points 2, 3, 8, 15 and 18 to 20."""

import itertools
import random
import unittest

from brimyard.changes import fewest_things, further_size, gain_beside, needed_sizes, size_left
from brimyard.errors import NoSize, TooMany, Unlike
from brimyard.fillings import count_of, filling_holds, left_of
from brimyard.heaps import heap_without, made_heap, things_of
from brimyard.mosts import most_of
from tests.samples import GREATEST
from tests.searches import most_sought

HEAPS = [
    (1, ()),
    (GREATEST, ()),
    (1, ((1, 1),)),
    (2, ((1, 1),)),
    (1, ((1, 3), (GREATEST, 2))),
    (6, ((2, 3), (5, 2))),
    (10, ((1, 1), (5, 2))),
    (10, ((3, 4), (5, 2), (7, 1))),
    (10, ((2, 3), (4, 2), (6, 2))),
    (20, ((1, 1), (2, 1), (3, 1), (5, 1), (8, 1), (13, 1), (19, 1), (21, 1))),
    (100, ((1, 2), (2, 2), (3, 2))),
    (GREATEST, ((GREATEST // 3, 2), (GREATEST // 3 + 1, 2), (GREATEST // 2, 2))),
]
JUST_SIXTY = (9, ((2, 30), (5, 30)))
JUST_WAYS = (9, ((1, 4), (2, 4), (3, 4), (4, 3), (5, 3)))
# Just above sixty things, and 2001 ways, as 3 times 23 times 29.
TOO_MANY = [(9, ((2, 61),)), (9, ((2, 31), (5, 30))), (9, ((1, 2), (2, 22), (3, 28))), (9, ((2, GREATEST),))]


def small_heaps():
    chance = random.Random(18)
    heaps = []
    for again in range(80):
        sizes = sorted(chance.sample(range(1, 12), chance.randint(1, 4)))
        heaps.append((chance.randint(1, 16), tuple([(size, chance.randint(1, 2)) for size in sizes])))
    return heaps


def heap_with(heap, size):
    """The heap with one thing more, perhaps of nine sizes."""
    things = sorted(things_of(heap) + [size])
    return (heap[0], tuple([(one, things.count(one)) for one in sorted(set(things))]))


def needed_sought(heap):
    most = most_sought(heap)
    return [size for size, many in heap[1] if most_sought(heap_without(heap, (size,))) < most]


class NeededTest(unittest.TestCase):
    def test_against_a_search(self):
        for heap in HEAPS + small_heaps():
            with self.subTest(heap=heap):
                told = needed_sizes(heap)
                self.assertIsInstance(told, list)
                self.assertEqual(told, needed_sought(heap))

    def test_written_out(self):
        self.assertEqual(needed_sizes((1, ())), [])
        self.assertEqual(needed_sizes((10, ((1, 1), (5, 2)))), [5])
        self.assertEqual(needed_sizes((6, ((1, 1), (5, 1)))), [1, 5])
        self.assertEqual(needed_sizes((6, ((1, 2), (5, 1)))), [5])
        self.assertEqual(needed_sizes((6, ((5, 3),))), [])

    def test_each_size_above_a_needed_one_is_needed(self):
        for heap in HEAPS + small_heaps() + [JUST_SIXTY, JUST_WAYS]:
            sizes = [size for size, many in heap[1]]
            told = needed_sizes(heap)
            self.assertEqual(told, sizes[len(sizes) - len(told):])

    def test_the_askers_own(self):
        heap = (6, ((1, 1), (5, 1)))
        needed_sizes(heap).clear()
        self.assertEqual(needed_sizes(heap), [1, 5])
        self.assertEqual(heap, (6, ((1, 1), (5, 1))))

    def test_too_many(self):
        for heap in TOO_MANY:
            with self.assertRaises(TooMany):
                needed_sizes(heap)


class LeftTest(unittest.TestCase):
    def test_against_a_search(self):
        for heap in HEAPS + small_heaps():
            needed = needed_sought(heap)
            for size, many in heap[1]:
                with self.subTest(heap=heap, size=size):
                    told = size_left(heap, size)
                    self.assertEqual(told is None, size in needed)
                    if told is not None:
                        self.assertIs(filling_holds(heap, told), True)
                        self.assertEqual(count_of(told), most_sought(heap))
                        self.assertGreaterEqual(dict(left_of(heap, told)[1]).get(size, 0), 1)
                    self.assertEqual(size_left(heap, size), told)

    def test_written_out(self):
        self.assertIsNone(size_left((10, ((1, 1), (5, 2))), 5))
        self.assertEqual(size_left((10, ((1, 1), (5, 2))), 1), (((5, 5), 1),))
        self.assertEqual(size_left((2, ((1, 1),)), 1), ())

    def test_a_size_that_the_heap_has_not(self):
        for heap in HEAPS:
            sizes = [size for size, many in heap[1]]
            for size in [0, -1, 4, 9, GREATEST - 1, GREATEST + 1, 10 ** 59]:
                if size not in sizes:
                    with self.assertRaises(NoSize):
                        size_left(heap, size)

    def test_which_refusal_goes_first(self):
        for heap in TOO_MANY:
            with self.assertRaises(NoSize):
                size_left(heap, 7)
            with self.assertRaises(TooMany):
                size_left(heap, 2)

    def test_just_at_the_bounds(self):
        for heap in [JUST_SIXTY, JUST_WAYS]:
            for size, many in heap[1]:
                told = size_left(heap, size)
                if told is not None:
                    self.assertIs(filling_holds(heap_without(heap, (size,)), told), True)
                    self.assertEqual(count_of(told), most_of(heap)[0])


class FurtherTest(unittest.TestCase):
    def judged(self, heap, most):
        told = further_size(heap)
        self.assertIsInstance(told, tuple)
        size, filling = told
        self.assertGreaterEqual(size, 1)
        self.assertIs(filling_holds(heap_with(heap, size), filling), True)
        self.assertEqual(count_of(filling), most + 1)
        self.assertEqual(size, heap[0] - most_of(heap)[2][-1][1])
        self.assertEqual(further_size(heap), told)
        return size

    def test_against_a_search(self):
        for heap in HEAPS + small_heaps():
            most = most_sought(heap)
            with self.subTest(heap=heap):
                size = self.judged(heap, most)
                self.assertEqual(most_sought(heap_with(heap, size)), most + 1)
                if size > 1:
                    self.assertEqual(most_sought(heap_with(heap, size - 1)), most)

    def test_written_out(self):
        self.assertEqual(further_size((1, ())), (1, (((1,), 1),)))
        self.assertEqual(further_size((GREATEST, ())), (GREATEST, (((GREATEST,), 1),)))
        self.assertEqual(further_size((2, ((1, 1),))), (1, (((1, 1), 1),)))
        self.assertEqual(further_size((10, ((3, 2), (10, 1)))), (4, (((3, 3, 4), 1), ((10,), 1))))
        self.assertEqual(further_size((5, ((5, 2),))), (5, (((5,), 3),)))

    def test_nine_sizes(self):
        heap = (100, tuple([(size, 1) for size in range(1, 9)]))
        size, filling = further_size(heap)
        self.assertEqual((size, filling), (64, (((1, 2, 3, 4, 5, 6, 7, 8, 64), 1),)))

    def test_just_at_the_bounds(self):
        for heap in [JUST_SIXTY, JUST_WAYS, (100, ((1, 60),))]:
            self.judged(heap, most_of(heap)[0])
        self.assertEqual(further_size((100, ((1, 60),))), (40, (((1,) * 60 + (40,), 1),)))

    def test_too_many(self):
        for heap in TOO_MANY:
            with self.assertRaises(TooMany):
                further_size(heap)


class FewestTest(unittest.TestCase):
    def fewest_sought(self, heap):
        most = most_sought(heap)
        numbers = []
        for taken in itertools.product(*[range(many + 1) for size, many in heap[1]]):
            kinds = [(size, number) for (size, many), number in zip(heap[1], taken) if number > 0]
            if most_sought((heap[0], tuple(kinds))) == most:
                numbers.append(sum(taken))
        return min(numbers)

    def judged(self, heap, most):
        told = fewest_things(heap)
        self.assertIsInstance(told, tuple)
        number, filling = told
        self.assertIs(filling_holds(heap, filling), True)
        self.assertEqual(count_of(filling), most)
        self.assertEqual(sum([len(lot) * times for lot, times in filling]), number)
        self.assertEqual(fewest_things(heap), told)
        return number

    def test_against_a_search(self):
        for heap in HEAPS + small_heaps()[:50]:
            with self.subTest(heap=heap):
                self.assertEqual(self.judged(heap, most_sought(heap)), self.fewest_sought(heap))

    def test_written_out(self):
        self.assertEqual(fewest_things((1, ())), (0, ()))
        self.assertEqual(fewest_things((10, ((3, 3),))), (0, ()))
        self.assertEqual(fewest_things((10, ((1, 10), (5, 2))))[0], 12)
        self.assertEqual(fewest_things((10, ((1, 9), (5, 2)))), (2, (((5, 5), 1),)))
        self.assertEqual(fewest_things((5, ((2, 3), (3, 2), (5, 1)))), (5, (((2, 3), 2), ((5,), 1))))

    def test_just_at_the_bounds(self):
        for heap in [JUST_SIXTY, JUST_WAYS]:
            self.judged(heap, most_of(heap)[0])

    def test_too_many(self):
        for heap in TOO_MANY:
            with self.assertRaises(TooMany):
                fewest_things(heap)


class GainTest(unittest.TestCase):
    def test_against_a_search(self):
        chance = random.Random(20)
        seen = set()
        for again in range(80):
            need = chance.randint(3, 15)
            one, other = [[chance.randint(1, 8) for again in range(chance.randint(0, 5))] for again in range(2)]
            wanted = most_sought(made_heap(need, one + other))
            wanted -= most_sought(made_heap(need, one)) + most_sought(made_heap(need, other))
            with self.subTest(need=need, one=one, other=other):
                self.assertEqual(gain_beside(made_heap(need, one), made_heap(need, other)), wanted)
                self.assertEqual(gain_beside(made_heap(need, other), made_heap(need, one)), wanted)
            seen.add(wanted)
        self.assertGreaterEqual(seen, {0, 1})

    def test_written_out(self):
        self.assertEqual(gain_beside((5, ()), (5, ())), 0)
        self.assertEqual(gain_beside((5, ((4, 2),)), (5, ((1, 2),))), 1)
        self.assertEqual(gain_beside((5, ((4, 1),)), (5, ((1, 1),))), 1)
        self.assertEqual(gain_beside((10, ((9, 4),)), (10, ((1, 4),))), 2)
        self.assertEqual(gain_beside((5, ((5, 2),)), (5, ((5, 1), (6, 1)))), 0)

    def test_unlike_goes_first(self):
        eight = tuple([(size, 1) for size in range(11, 19)])
        for one, other in [
            ((5, ()), (6, ())), ((5, ((2, 61),)), (6, ())), ((5, ()), (6, ((2, 61),))), ((5, ((1, 1),)), (6, eight)),
            ((5, ((2, GREATEST),)), (6, ((2, 1),))),
        ]:
            with self.assertRaises(Unlike):
                gain_beside(one, other)
            with self.assertRaises(Unlike):
                gain_beside(other, one)

    def test_too_many(self):
        eight = tuple([(size, 1) for size in range(11, 19)])
        pairs = [
            ((9, ((1, 1),)), (9, eight)),
            ((9, ((2, GREATEST),)), (9, ((2, 1),))),
            ((9, ((2, 31),)), (9, ((2, 30),))),
            ((9, ((2, 31),)), (9, ((5, 30),))),
            ((9, ((1, 2), (2, 11), (3, 28))), (9, ((2, 11),))),
        ] + [(heap, (9, ())) for heap in TOO_MANY]
        for one, other in pairs:
            with self.subTest(one=one, other=other):
                with self.assertRaises(TooMany):
                    gain_beside(one, other)
                with self.assertRaises(TooMany):
                    gain_beside(other, one)

    def test_just_at_the_bounds(self):
        self.assertEqual(gain_beside((9, ((2, 30),)), (9, ((5, 30),))), 22 - 6 - 15)
        self.assertEqual(gain_beside((9, ((2, 30),)), (9, ((2, 30),))), 0)
        self.assertEqual(gain_beside(JUST_WAYS, (9, ())), 0)
        self.assertEqual(gain_beside((9, JUST_WAYS[1][:3]), (9, JUST_WAYS[1][3:])), most_of(JUST_WAYS)[0] - 2 - 3)

    def test_what_is_handed_in_stays(self):
        one, other = (5, ((4, 2),)), (5, ((1, 2),))
        gain_beside(one, other)
        self.assertEqual((one, other), ((5, ((4, 2),)), (5, ((1, 2),))))


class ChangeTest(unittest.TestCase):
    def test_one_thing_changes_the_most_by_one_at_most(self):
        for heap in small_heaps()[:30]:
            most = most_of(heap)[0]
            for size, many in heap[1]:
                self.assertIn(most_of(heap_without(heap, (size,)))[0], [most, most - 1])
                self.assertIn(most_of(heap_with(heap, size))[0], [most, most + 1])
                self.assertIn(most_of(heap_with(heap_without(heap, (size,)), size + 1))[0], [most, most + 1])


if __name__ == "__main__":
    unittest.main()
