"""Heaps: tuples (need, kinds), kinds a rising tuple of pairs (size, many)."""

from brimyard.errors import NoHeap, NoLot, TooMany, Unlike
from brimyard.orders import is_rising
from brimyard.ratios import is_whole

GREATEST = 10 ** 12
MOST_KINDS = 8
MOST_THINGS = 100


def is_size(thing):
    """Whether a thing can be a size, a need or a count of like things; of anything."""
    return is_whole(thing) and 1 <= thing <= GREATEST


def is_kind(thing):
    """Whether a thing is a pair (size, many); of anything."""
    return isinstance(thing, tuple) and len(thing) == 2 and is_size(thing[0]) and is_size(thing[1])


def is_heap(thing):
    """Whether a thing is a heap; of anything."""
    if not isinstance(thing, tuple) or len(thing) != 2:
        return False
    need, kinds = thing
    if not is_size(need) or not isinstance(kinds, tuple) or len(kinds) > MOST_KINDS:
        return False
    # The pairs are judged first: only sizes can be compared.
    return all([is_kind(kind) for kind in kinds]) and is_rising([kind[0] for kind in kinds])


def counts_of(sizes):
    """A dict of how many there are of each size."""
    counts = {}
    for size in sizes:
        counts[size] = counts.get(size, 0) + 1
    return counts


def made_heap(need, sizes):
    """The heap with a thing for each of the sizes; NoHeap, of anything."""
    if not is_size(need):
        raise NoHeap("the need isn't a whole number from 1 to 10 ** 12")
    if not isinstance(sizes, (list, tuple)) or len(sizes) > MOST_THINGS:
        raise NoHeap("the sizes aren't a list of at most a hundred")
    if not all([is_size(size) for size in sizes]):
        raise NoHeap("a size isn't a whole number from 1 to 10 ** 12")
    counts = counts_of(sizes)
    if len(counts) > MOST_KINDS:
        raise NoHeap("there are more than eight unlike sizes")
    return (need, tuple(sorted(counts.items())))


def total_of(heap):
    """The sum of all things of the heap."""
    return sum([size * many for size, many in heap[1]])


def number_of_things(heap):
    """How many things the heap has."""
    return sum([many for size, many in heap[1]])


def has_counts(heap, counts):
    """Whether the heap has as many things of each size as a dict tells."""
    owned = dict(heap[1])
    return all([many <= owned.get(size, 0) for size, many in counts.items()])


def heap_less(heap, counts):
    """The heap with as many things less of each size as a dict tells; NoLot where it hasn't so many."""
    if not has_counts(heap, counts):
        raise NoLot("the heap hasn't so many things of a size")
    need, kinds = heap
    left = [(size, many - counts.get(size, 0)) for size, many in kinds]
    return (need, tuple([kind for kind in left if kind[1] > 0]))


def heap_without(heap, lot):
    """The heap without the things of a lot; NoLot where it hasn't so many."""
    return heap_less(heap, counts_of(lot))


def put_beside(one, other):
    """One heap with the things of both; Unlike, then TooMany."""
    if one[0] != other[0]:
        raise Unlike("the heaps have unlike needs")
    counts = dict(one[1])
    for size, many in other[1]:
        counts[size] = counts.get(size, 0) + many
    if len(counts) > MOST_KINDS:
        raise TooMany("there are more than eight sizes")
    if any([many > GREATEST for many in counts.values()]):
        raise TooMany("there are more than 10 ** 12 like things")
    return (one[0], tuple(sorted(counts.items())))


def refuse_above(heap, most):
    """TooMany of a heap of more things than the most."""
    if number_of_things(heap) > most:
        raise TooMany(f"the heap has more than {most} things")


def things_of(heap):
    """The sorted list of all things of the heap; TooMany above a hundred."""
    refuse_above(heap, MOST_THINGS)
    things = []
    for size, many in heap[1]:
        things.extend([size] * many)
    return things
