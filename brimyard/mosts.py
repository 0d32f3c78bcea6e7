"""The most of a heap, with a filling of that count and the least table."""

from brimyard.bench import Bench
from brimyard.fillings import count_of, filling_holds, lean_filling
from brimyard.tables import lasts_of, put_to, table_holds, table_of


def bins_of(heap):
    """The most of the heap alone; TooMany."""
    return table_of(heap)[-1][0]


def last_put(need, table, place, steps):
    """That pair (size, pace) of several whose thing, put last, makes the pair of the least table at the place."""
    return max([(put_to(need, table[place - pace], size), size, pace) for size, pace in steps])[1:]


def row_to(heap, table, place):
    """The things of the way at a place of the least table, in a row in which they make its pair."""
    lasts = lasts_of(heap)
    row = []
    while place > 0:
        size, pace = last_put(heap[0], table, place, lasts[place])
        row.append(size)
        place -= pace
    return row[::-1]


def lots_of_row(need, row):
    """The list of the full lots that come of a row of things, put one by one on a bench."""
    bench = Bench(need)
    for size in row:
        bench.put(size)
    return bench.shut_lots()


def filling_of_row(heap, row):
    """The lean filling that comes of a row of things, put one by one on a bench."""
    return lean_filling(heap, [(lot, 1) for lot in lots_of_row(heap[0], row)])


def most_of(heap):
    """A triple (count, filling, table) of the heap; TooMany."""
    table = table_of(heap)
    row = row_to(heap, table, len(table) - 1)
    return (table[-1][0], filling_of_row(heap, row), table)


def most_right(heap, told):
    """Whether a triple (count, filling, table) is right; TooMany."""
    count, filling, table = told
    if not table_holds(heap, table) or table[-1][0] != count:
        return False
    return filling_holds(heap, filling) and count_of(filling) == count
