"""Greatest first: things are laid, from the greatest on, each to the lot that has least by then."""

from brimyard.errors import TooFew
from brimyard.heaps import things_of


def greatest_first(heap, number):
    """The list of so many lots, in their order, sorted tuples; TooMany above a hundred things, then TooFew."""
    things = things_of(heap)
    if len(things) < number:
        raise TooFew("there are fewer things than lots")
    if number < 1:
        return []
    sums = [0] * number
    lots = [[] for place in range(number)]
    for size in reversed(things):
        place = sums.index(min(sums))
        sums[place] += size
        lots[place].append(size)
    return [tuple(sorted(lot)) for lot in lots]
