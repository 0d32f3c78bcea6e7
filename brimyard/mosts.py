"""The most of a heap, with a filling of that count and the least table."""

from brimyard.bench import Bench
from brimyard.fillings import count_of, filling_holds, lean_filling
from brimyard.tables import last_things, put_to, table_holds, table_of, ways_of


def bins_of(heap):
    """The most of the heap alone; TooMany."""
    return table_of(heap)[-1][0]


def last_put(heap, table, place, way):
    """A pair (size, pace) of a thing that, put last, makes the way's pair of the least table."""
    return max([(put_to(heap[0], table[place - pace], size), size, pace) for size, pace in last_things(heap, way)])[1:]


def row_to(heap, table, place):
    """The things of the way at a place of the least table, in a row in which they make its pair."""
    ways = ways_of(heap)
    row = []
    while place > 0:
        size, pace = last_put(heap, table, place, ways[place])
        row.append(size)
        place -= pace
    return row[::-1]


def filling_of_row(heap, row):
    """The lean filling that comes of a row of things, put one by one on a bench."""
    bench = Bench(heap[0])
    for size in row:
        bench.put(size)
    return lean_filling(heap, [(lot, 1) for lot in bench.shut_lots()])


def most_of(heap):
    """A triple (count, filling, table) of the heap; TooMany."""
    table = table_of(heap)
    row = row_to(heap, table, len(table) - 1)
    return (table[-1][0], filling_of_row(heap, row), table)


def most_right(heap, told):
    """Whether a triple (count, filling, table) is right; TooMany."""
    count, filling, table = told
    if not table_holds(heap, table) or table[-1][0] != count:
        return False
    return filling_holds(heap, filling) and count_of(filling) == count
