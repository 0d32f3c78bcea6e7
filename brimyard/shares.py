"""Shares of lean lots and prices of sizes that come to one sum."""

from brimyard.leans import lean_lots
from brimyard.orders import is_rising
from brimyard.pivots import best_rows
from brimyard.prices import are_prices, cost_of, on_one_bottom, sum_of
from brimyard.ratios import is_ratio, ratio_of


def best_shares(heap, lots):
    """A triple (sum, shares, prices) for the heap, lots being its lean lots."""
    kinds = heap[1]
    rows, bottom, used = best_rows(kinds, lots)
    shares = [
        (lots[column], ratio_of(row[-1], bottom)) for row, column in zip(rows, used)
        if column < len(lots) and row[-1] > 0
    ]
    prices = [ratio_of(price, bottom) for price in rows[-1][len(lots):-1]]
    return (ratio_of(rows[-1][-1], bottom), tuple(sorted(shares)), tuple(prices))


def shares_of(heap):
    """A triple (sum, shares, prices) of the heap; TooMany as lean_lots."""
    return best_shares(heap, lean_lots(heap))


def has_things_for(heap, shares):
    """Whether the heap has, of each size, no less than the shares come to together."""
    tops, bottom = on_one_bottom([part for lot, part in shares])
    for size, many in heap[1]:
        taken = sum([top * lot.count(size) for top, (lot, part) in zip(tops, shares)])
        if taken > many * bottom:
            return False
    return True


def are_shares(heap, lots, shares):
    """Whether pairs of a tuple and a pair of whole numbers are shares of the heap, lots being its lean lots."""
    known = {lot: True for lot in lots}
    if not all([lot in known and is_ratio(part) and part[0] > 0 for lot, part in shares]):
        return False
    return is_rising([lot for lot, part in shares]) and has_things_for(heap, shares)


def shares_right(heap, told):
    """Whether a triple (sum, shares, prices) is right; TooMany as lean_lots."""
    lots = lean_lots(heap)
    total, shares, prices = told
    if not are_shares(heap, lots, shares) or not are_prices(heap, lots, prices):
        return False
    return sum_of([part for lot, part in shares]) == total and cost_of(heap, prices) == total
