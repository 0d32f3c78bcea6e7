"""Tables: for each way to take things from a heap, how many bins they fill and what lies in the open one."""

from brimyard.errors import TooMany
from brimyard.heaps import refuse_above

MOST_TABLED = 60
MOST_WAYS = 2000


def number_of_ways(kinds):
    """The product of one more than each size's many."""
    ways = 1
    for size, many in kinds:
        ways *= many + 1
    return ways


def ways_of(heap):
    """The rising list of all ways to take things from the heap; TooMany."""
    refuse_above(heap, MOST_TABLED)
    if number_of_ways(heap[1]) > MOST_WAYS:
        raise TooMany("there are more than two thousand ways")
    ways = [()]
    for size, many in heap[1]:
        ways = [way + (taken,) for way in ways for taken in range(many + 1)]
    return ways


def paces_of(heap):
    """Pairs (size, pace): how many places on in the ways the way with one more of that size stands."""
    kinds = heap[1]
    return [(size, number_of_ways(kinds[place + 1:])) for place, (size, many) in enumerate(kinds)]


def put_to(need, pair, size):
    """What a thing of that size makes of a pair (bins, lying)."""
    bins, lying = pair
    if lying + size >= need:
        return (bins + 1, 0)
    return (bins, lying + size)


def lasts_of(heap):
    """For each way the pairs (size, pace) of the sizes that it takes any of: one of these can be put last; TooMany."""
    paces = paces_of(heap)
    return [[step for taken, step in zip(way, paces) if taken > 0] for way in ways_of(heap)]


def made_last(need, table, place, steps):
    """What each thing of the pairs (size, pace), put last, makes of the pair so many places ahead of the place."""
    return [put_to(need, table[place - pace], size) for size, pace in steps]


def table_by(need, lasts):
    """The least table by a need, lasts being the things that can be put last in each way."""
    table = []
    for place, steps in enumerate(lasts):
        table.append(max(made_last(need, table, place, steps), default=(0, 0)))
    return tuple(table)


def table_of(heap):
    """The least table of the heap; TooMany."""
    return table_by(heap[0], lasts_of(heap))


def table_holds(heap, table):
    """Whether a tuple of pairs of whole numbers is a table of the heap that holds; TooMany."""
    lasts = lasts_of(heap)
    if len(table) != len(lasts) or not all([bins >= 0 and lying >= 0 for bins, lying in table]):
        return False
    for place, steps in enumerate(lasts):
        if not all([made <= table[place] for made in made_last(heap[0], table, place, steps)]):
            return False
    return True
