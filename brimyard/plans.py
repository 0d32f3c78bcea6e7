"""Plans: fillings of great counts that come near the sum of the best shares."""

from brimyard.errors import TooMany
from brimyard.fillings import count_of, filling_holds
from brimyard.heaps import GREATEST
from brimyard.leans import lean_lots
from brimyard.prices import are_prices, cost_of, on_one_bottom
from brimyard.ratios import whole_part
from brimyard.shares import shares_of


def plan_of(heap):
    """A triple (sum, filling, prices) of the heap; TooMany as lean_lots."""
    total, shares, prices = shares_of(heap)
    # There are no more shares than sizes, and each loses less than one lot.
    filling = [(lot, whole_part(part)) for lot, part in shares if whole_part(part) > 0]
    return (total, tuple(filling), prices)


def plan_right(heap, told):
    """Whether a triple (sum, filling, prices) is a plan for the heap; TooMany as lean_lots."""
    total, filling, prices = told
    if not are_prices(heap, lean_lots(heap), prices) or cost_of(heap, prices) != total:
        return False
    return filling_holds(heap, filling) and count_of(filling) + len(heap[1]) > whole_part(total)


def heap_times(heap, times):
    """The heap with each size's things so many times; TooMany above 10 ** 12 like things."""
    kinds = [(size, many * times) for size, many in heap[1]]
    if any([many > GREATEST for size, many in kinds]):
        raise TooMany("there are more than 10 ** 12 like things")
    return (heap[0], tuple(kinds))


def whole_times(heap):
    """A pair (times, filling): the heap so many times is filled by lean lots to just times the shares' sum.

    TooMany as lean_lots.
    """
    total, shares, prices = shares_of(heap)
    tops, times = on_one_bottom([part for lot, part in shares])
    return (times, tuple([(lot, top) for (lot, part), top in zip(shares, tops)]))
