"""Ahead: lots of the greatest thing left and the least ones left, one behind the other."""

from brimyard.bench import bound_by, part_by
from brimyard.errors import TooMany
from brimyard.fillings import count_of
from brimyard.heaps import MOST_THINGS, heap_less, total_of
from brimyard.ratios import rounded_up


def next_counts(heap):
    """A dict of how many things of each size the next lot takes, of a heap that one becomes full of."""
    greatest = heap[1][-1][0]
    counts = {greatest: 1}
    missing = heap[0] - greatest
    for size, many in heap_less(heap, counts)[1]:
        if missing > 0:
            taken = min(many, rounded_up(missing, size))
            counts[size] = counts.get(size, 0) + taken
            missing -= size * taken
    return counts


def lot_of_counts(counts):
    """The lot of so many things of each size; TooMany above a hundred."""
    if sum(counts.values()) > MOST_THINGS:
        raise TooMany("a full lot has more than a hundred things")
    lot = []
    for size, many in sorted(counts.items()):
        lot.extend([size] * many)
    return tuple(lot)


def times_of(heap, counts):
    """How many lots of these counts follow one another.

    As long as the heap has the things for it, the next lot is the same: it takes of one size of least
    things only, or else all of the least size, and then just once.
    """
    return min([many // counts[size] for size, many in heap[1] if size in counts])


def made_ahead(heap):
    """The filling that is made ahead of the heap; TooMany."""
    made = []
    # A thing of the need or more is a lot alone: it is the greatest, and needs no least ones.
    while total_of(heap) >= heap[0]:
        counts = next_counts(heap)
        lot = lot_of_counts(counts)
        times = times_of(heap, counts)
        made.append((lot, times))
        heap = heap_less(heap, {size: many * times for size, many in counts.items()})
    return tuple(sorted(made))


def ahead_bound(heap):
    """A bound for the heap's most by what is made ahead of it; TooMany."""
    need, kinds = heap
    count = count_of(made_ahead(heap))
    part = part_by(need, max([size for size, many in kinds], default=0))
    return min((3 * count + 1) // 2, bound_by(part, count))
