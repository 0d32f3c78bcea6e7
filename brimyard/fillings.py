"""Fillings: rising tuples of pairs (lot, times) of full lots that a heap has the things for."""

from brimyard.heaps import has_counts, heap_less
from brimyard.lots import is_full, is_lot, lean_of
from brimyard.orders import is_rising


def counts_in(filling):
    """A dict of how many things of each size the filling takes."""
    counts = {}
    for lot, times in filling:
        for size in lot:
            counts[size] = counts.get(size, 0) + times
    return counts


def is_full_lot(need, thing):
    """Whether a tuple of whole numbers is a lot, and full."""
    return is_lot(thing) and is_full(need, thing)


def filling_holds(heap, filling):
    """Whether a tuple of pairs of a tuple of whole numbers and a whole number is a filling of the heap."""
    if not all([is_full_lot(heap[0], lot) and times >= 1 for lot, times in filling]):
        return False
    return is_rising([lot for lot, times in filling]) and has_counts(heap, counts_in(filling))


def count_of(filling):
    """How many lots the filling has."""
    return sum([times for lot, times in filling])


def left_of(heap, filling):
    """The heap without all lots of the filling."""
    return heap_less(heap, counts_in(filling))


def lean_filling(heap, filling):
    """The filling with its lots made lean, alike ones put together."""
    leans = {}
    for lot, times in filling:
        lean = lean_of(heap[0], lot)
        leans[lean] = leans.get(lean, 0) + times
    return tuple(sorted(leans.items()))
