"""Prices: tuples of a ratio for each size of a heap, by which each of its lean lots costs 1 at least."""

from brimyard.ratios import greatest_divisor, is_ratio, ratio_of


def on_one_bottom(ratios):
    """A pair (tops, bottom): the ratios' tops over one bottom that all of them have."""
    bottom = 1
    for top, own in ratios:
        bottom = bottom // greatest_divisor(bottom, own) * own
    return ([top * (bottom // own) for top, own in ratios], bottom)


def sum_of(ratios):
    """The sum of a list of ratios."""
    tops, bottom = on_one_bottom(ratios)
    return ratio_of(sum(tops), bottom)


def cost_of(heap, prices):
    """What all things of the heap cost together."""
    tops, bottom = on_one_bottom(prices)
    return ratio_of(sum([many * top for (size, many), top in zip(heap[1], tops)]), bottom)


def each_lot_costs_one(heap, lots, prices):
    """Whether each of the lots costs 1 at least."""
    tops, bottom = on_one_bottom(prices)
    costs = {size: top for (size, many), top in zip(heap[1], tops)}
    return all([sum([costs[size] for size in lot]) >= bottom for lot in lots])


def are_prices(heap, lots, prices):
    """Whether a tuple of pairs of whole numbers are prices of the heap, lots being its lean lots."""
    if len(prices) != len(heap[1]) or not all([is_ratio(price) and price[0] >= 0 for price in prices]):
        return False
    return each_lot_costs_one(heap, lots, prices)
