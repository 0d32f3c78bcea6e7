"""The stair: the greatest needs by which so many lots of a heap's things can be full."""

from brimyard.errors import TooFew, TooMany
from brimyard.fillings import lean_filling
from brimyard.heaps import GREATEST, number_of_things, refuse_above, things_of, total_of
from brimyard.mosts import lots_of_row, row_to
from brimyard.tables import lasts_of, table_by, table_of

MOST_ON_STAIR = 12


def refuse_great(heap):
    """TooMany of a heap of more than twelve things, or whose things come to 10 ** 12 or more."""
    refuse_above(heap, MOST_ON_STAIR)
    if total_of(heap) >= GREATEST:
        raise TooMany("the things come to 10 ** 12 or more")


def sums_of(heap):
    """The rising list of what any things of the heap come to, from 0 on."""
    sums = [0]
    for size, many in heap[1]:
        sums = [one + size * taken for one in sums for taken in range(many + 1)]
    return sorted(set(sums))


def ceiling_of(things, number):
    """A need by no more than which so many lots of the sorted things can be full.

    Some of the greatest things lie in as many lots at most, and the other lots share what is left.
    """
    left = [sum(things[:len(things) - great]) // (number - great) for great in range(number)]
    return min(left, default=sum(things))


def greatest_need(heap, number):
    """The greatest need by which so many lots of the heap's things can be full."""
    ceiling = ceiling_of(things_of(heap), number)
    # It is what the things of a lot come to: just by this sum the least lot is full.
    needs = [one for one in sums_of(heap) if one <= ceiling]
    lasts = lasts_of(heap)
    low, high = 0, len(needs)
    while high - low > 1:
        middle = (low + high) // 2
        if table_by(needs[middle], lasts)[-1][0] >= number:
            low = middle
        else:
            high = middle
    return needs[low]


def stair_of(heap):
    """The list of the greatest needs of one lot and more, up to as many as there are things; TooMany."""
    refuse_great(heap)
    return [greatest_need(heap, number + 1) for number in range(number_of_things(heap))]


def full_by(heap, number):
    """A triple (need, filling, table): the greatest need of so many lots, with both papers; TooMany, then TooFew."""
    refuse_great(heap)
    if number_of_things(heap) < number:
        raise TooFew("there are fewer things than lots")
    need = greatest_need(heap, number)
    by_need = (need, heap[1])
    table = table_of(by_need)
    lots = lots_of_row(need, row_to(by_need, table, len(table) - 1))
    filling = lean_filling(by_need, [(lot, 1) for lot in lots[:number]])
    return (need, filling, table_of((need + 1, heap[1])))
