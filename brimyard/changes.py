"""What one thing less or more does to the most of a heap."""

from brimyard.errors import NoSize
from brimyard.heaps import put_beside
from brimyard.mosts import bins_of, filling_of_row, row_to
from brimyard.tables import paces_of, table_of, ways_of


def needed_sizes(heap):
    """The rising list of the sizes of which one thing less makes the most less; TooMany."""
    table = table_of(heap)
    return [size for size, pace in paces_of(heap) if table[-1 - pace][0] < table[-1][0]]


def size_left(heap, size):
    """A filling of the most that leaves a thing of that size, None where it is needed; NoSize, then TooMany."""
    paces = dict(paces_of(heap))
    if size not in paces:
        raise NoSize("the heap hasn't this size")
    table = table_of(heap)
    place = len(table) - 1 - paces[size]
    if table[place][0] < table[-1][0]:
        return None
    return filling_of_row(heap, row_to(heap, table, place))


def further_size(heap):
    """A pair (size, filling): the least size of one thing more by which the most is 1 more, and such a filling.

    TooMany, of the heap without that thing.
    """
    table = table_of(heap)
    size = heap[0] - table[-1][1]
    row = row_to(heap, table, len(table) - 1)
    return (size, filling_of_row(heap, row + [size]))


def fewest_things(heap):
    """A pair (number, filling): how few things a filling of the most can hold, and such a filling; TooMany."""
    table = table_of(heap)
    ways = ways_of(heap)
    number, place = min([
        (sum(way), place) for place, way in enumerate(ways) if table[place][0] == table[-1][0]
    ])
    return (number, filling_of_row(heap, row_to(heap, table, place)))


def gain_beside(one, other):
    """How much more the most of two heaps beside one another is than both mosts; Unlike, TooMany."""
    both = bins_of(put_beside(one, other))
    return both - bins_of(one) - bins_of(other)
