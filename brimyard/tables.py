"""Tables: for each way to take things from a heap, how many bins they fill and what lies in the open one."""

from brimyard.errors import TooMany
from brimyard.heaps import number_of_things

MOST_TABLED = 60
MOST_WAYS = 2000


def number_of_ways(kinds):
    """The product of one more than each size's many."""
    ways = 1
    for size, many in kinds:
        ways *= many + 1
    return ways


def ways_of(heap):
    """The rising list of all ways to take things from the heap; TooMany."""
    if number_of_things(heap) > MOST_TABLED:
        raise TooMany("the heap has more than sixty things")
    if number_of_ways(heap[1]) > MOST_WAYS:
        raise TooMany("there are more than two thousand ways")
    ways = [()]
    for size, many in heap[1]:
        ways = [way + (taken,) for way in ways for taken in range(many + 1)]
    return ways


def paces_of(heap):
    """For each size how many places on in the ways the way with one more of it stands."""
    kinds = heap[1]
    return [number_of_ways(kinds[place + 1:]) for place in range(len(kinds))]


def put_to(need, pair, size):
    """What a thing of that size makes of a pair (bins, lying)."""
    bins, lying = pair
    if lying + size >= need:
        return (bins + 1, 0)
    return (bins, lying + size)


def last_things(heap, way):
    """The pairs (size, pace) of the sizes of which the way takes any: one of these can be put last."""
    return [(size, pace) for taken, (size, many), pace in zip(way, heap[1], paces_of(heap)) if taken > 0]


def made_last(heap, table, place, way):
    """What each thing that can be put last makes of the pair of the way without it, the way's place being told."""
    return [put_to(heap[0], table[place - pace], size) for size, pace in last_things(heap, way)]


def table_of(heap):
    """The least table of the heap; TooMany."""
    table = []
    for place, way in enumerate(ways_of(heap)):
        table.append(max(made_last(heap, table, place, way), default=(0, 0)))
    return tuple(table)


def table_holds(heap, table):
    """Whether a tuple of pairs of whole numbers is a table of the heap that holds; TooMany."""
    ways = ways_of(heap)
    if len(table) != len(ways) or not all([bins >= 0 and lying >= 0 for bins, lying in table]):
        return False
    for place, way in enumerate(ways):
        if not all([made <= table[place] for made in made_last(heap, table, place, way)]):
            return False
    return True
