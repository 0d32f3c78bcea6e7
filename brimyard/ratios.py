"""Ratios: tuples (top, bottom) of whole numbers in lowest terms, the bottom from 1 on."""

from brimyard.errors import NoRatio


def is_whole(thing):
    """Whether a thing is a whole number; of anything."""
    return isinstance(thing, int) and not isinstance(thing, bool)


def greatest_divisor(one, other):
    """The greatest number that divides both; 0 where both are 0."""
    one, other = abs(one), abs(other)
    while other != 0:
        one, other = other, one % other
    return one


def is_ratio(thing):
    """Whether a thing is a ratio; of anything."""
    if not isinstance(thing, tuple) or len(thing) != 2:
        return False
    top, bottom = thing
    if not is_whole(top) or not is_whole(bottom):
        return False
    return bottom >= 1 and greatest_divisor(top, bottom) == 1


def ratio_of(top, bottom):
    """The ratio of two whole numbers; NoRatio where the bottom is 0."""
    if bottom == 0:
        raise NoRatio("the bottom of a ratio is 0")
    divisor = greatest_divisor(top, bottom)
    if bottom < 0:
        divisor = -divisor
    return (top // divisor, bottom // divisor)


def ratio_plus(one, other):
    """The sum of two ratios."""
    return ratio_of(one[0] * other[1] + other[0] * one[1], one[1] * other[1])


def ratio_minus(one, other):
    """One ratio less the other."""
    return ratio_of(one[0] * other[1] - other[0] * one[1], one[1] * other[1])


def ratio_times(one, other):
    """The product of two ratios."""
    return ratio_of(one[0] * other[0], one[1] * other[1])


def ratio_over(one, other):
    """One ratio divided by the other; NoRatio where the other is nought."""
    return ratio_of(one[0] * other[1], one[1] * other[0])


def is_less(one, other):
    """Whether one ratio is below the other."""
    return one[0] * other[1] < other[0] * one[1]


def whole_part(one):
    """The greatest whole number that isn't above the ratio."""
    return one[0] // one[1]


def rounded_up(top, bottom):
    """The least whole number that isn't below top by bottom, the bottom from 1 on."""
    return -(-top // bottom)
