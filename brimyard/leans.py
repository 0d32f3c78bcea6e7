"""The lean lots of a heap."""

from brimyard.errors import TooMany
from brimyard.heaps import total_of
from brimyard.lots import is_full
from brimyard.ratios import rounded_up

MOST_LEANS = 300
MOST_IN_A_LEAN = 60


def grown_lots(need, lot, kind, below):
    """The lots that a lot which isn't full becomes by things of a kind, none greater than its own.

    Told are those that are lean, and those of which lean lots come by lesser things, which sum to below.
    """
    size, many = kind
    missing = need - sum(lot)
    fewest = max(0, rounded_up(missing - below, size))
    most = min(many, rounded_up(missing, size))
    grown = []
    for number in range(fewest, most + 1):
        # Each of them is, or becomes, a lean lot of so many things at least.
        if len(lot) + number > MOST_IN_A_LEAN:
            raise TooMany("a lean lot has more than sixty things")
        grown.append((size,) * number + lot)
    return grown


def lean_lots(heap):
    """The rising list of all lean lots that the heap has the things for; TooMany."""
    need, kinds = heap
    below = total_of(heap)
    begun = [()]
    found = []
    # Things are put from the greatest on: so the last one, by which a lot
    # becomes full, is one of its least, and the lot is lean.
    for size, many in reversed(kinds):
        below -= size * many
        grown = []
        for lot in begun:
            grown.extend(grown_lots(need, lot, (size, many), below))
        found.extend([lot for lot in grown if is_full(need, lot)])
        begun = [lot for lot in grown if not is_full(need, lot)]
        # Of each begun lot another lean one comes: the search stays as small as its answer.
        if len(found) + len(begun) > MOST_LEANS:
            raise TooMany("there are more than 300 lean lots")
    return sorted(found)


def greatest_lots(heap):
    """The rising list of the lean lots that hold the heap's greatest size; TooMany as lean_lots."""
    return [lot for lot in lean_lots(heap) if lot[-1] == heap[1][-1][0]]
