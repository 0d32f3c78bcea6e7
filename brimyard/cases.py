"""Papers of cases: that a heap's most is at most k, by prices or by cases of the lot that holds its greatest size."""

from brimyard.heaps import heap_without, refuse_above
from brimyard.leans import greatest_lots, lean_lots
from brimyard.mosts import bins_of
from brimyard.prices import are_prices, cost_of
from brimyard.ratios import is_less
from brimyard.shares import shares_of

MOST_IN_CASES = 12


def paper_for(heap, k):
    """A paper that the heap's most is at most k, as it is."""
    total, shares, prices = shares_of(heap)
    if is_less(total, (k + 1, 1)):
        return ("prices", prices)
    return ("cases", tuple([paper_for(heap_without(heap, lot), k - 1) for lot in greatest_lots(heap)]))


def cases_of(heap):
    """A pair (k, paper), k the heap's most; TooMany."""
    refuse_above(heap, MOST_IN_CASES)
    k = bins_of(heap)
    return (k, paper_for(heap, k))


def prices_show(heap, k, prices):
    """Whether a tuple of pairs of whole numbers are prices of the heap by which its things cost less than k and 1."""
    return are_prices(heap, lean_lots(heap), prices) and is_less(cost_of(heap, prices), (k + 1, 1))


def papers_show(heap, k, papers):
    """Whether the papers, one for each lot that holds the greatest size, show that the heap's most is at most k."""
    lots = greatest_lots(heap)
    if k < 1 or len(papers) != len(lots):
        return False
    for lot, paper in zip(lots, papers):
        if not cases_hold(heap_without(heap, lot), k - 1, paper):
            return False
    return True


def cases_hold(heap, k, paper):
    """Whether a paper shows that the heap's most is at most k; TooMany."""
    refuse_above(heap, MOST_IN_CASES)
    word, shown = paper
    if word == "prices":
        return prices_show(heap, k, shown)
    return word == "cases" and papers_show(heap, k, shown)
