"""The foe: a row of things of which a hand that never moves them makes few full lots."""


def lots_from(levels, k):
    """How many levels are k at least."""
    return len([level for level in levels if level >= k])


def foe_row(need, levels):
    """A pair (k, m): behind the things of size 1, m things of the need less k come."""
    # Without any level there is still the k of 1.
    greatest = max([1] + list(levels))
    product, k = min([(k * lots_from(levels, k), k) for k in range(1, greatest + 1)])
    return (k, sum(levels) // k)


def foe_bound(need, levels):
    """The greatest number of full lots that the hand can have."""
    k, m = foe_row(need, levels)
    # A lot of a level below k needs two of the great things.
    return (m + lots_from(levels, k)) // 2


def foe_filling(need, levels):
    """The filling of count m of all these things."""
    k, m = foe_row(need, levels)
    return (((1,) * k + (need - k,), m),)
