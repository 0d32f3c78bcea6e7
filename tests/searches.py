"""Answers sought in another way than the program's: by trying all there is."""

import itertools

from brimyard.heaps import things_of


def sought_lots(heap):
    """The lean lots by trying every choice of how many of each size."""
    need, kinds = heap
    found = []
    for numbers in itertools.product(*[range(many + 1) for size, many in kinds]):
        lot = tuple([size for (size, many), number in zip(kinds, numbers) for again in range(number)])
        if lot and sum(lot) >= need and sum(lot) - min(lot) < need:
            found.append(lot)
    return sorted(found)


def states_sought(heap):
    """The sums of the lots, sorted, none told above the need, for every way to put all things into lots."""
    need = heap[0]
    states = {()}
    for size in things_of(heap):
        grown = set()
        for state in states:
            grown.add(tuple(sorted(state + (min(need, size),))))
            for place in range(len(state)):
                total = min(need, state[place] + size)
                grown.add(tuple(sorted(state[:place] + (total,) + state[place + 1:])))
        states = grown
    return states


def fullest_sought(heap):
    """A pair: the most full lots, and the most that can lie together beside so many."""
    need = heap[0]
    return max([
        (len([total for total in state if total >= need]), max([total for total in state if total < need], default=0))
        for state in states_sought(heap)
    ])


def most_sought(heap):
    """The most full lots."""
    return fullest_sought(heap)[0]
