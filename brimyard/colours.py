"""Colours: bins of so many things each, of unlike colours."""

from brimyard.fillings import count_of, counts_in
from brimyard.orders import is_rising


def most_bins(counts, d):
    """The greatest number of bins of d things of unlike colours.

    A bin has at most one thing of each of the greatest counts, and the rest of its d things of the others. Not
    fewer can be made: by this number cut counts come to d for each bin, and wheel_of makes them.
    """
    rising = sorted(counts)
    rests = [sum(rising[:max(0, len(rising) - great)]) // (d - great) for great in range(d)]
    return min(rests, default=0)


def cut_counts(counts, d, bins):
    """The counts, each cut to the number of bins at most, and all to just d for each bin."""
    left = d * bins
    cut = []
    for many in counts:
        taken = min(many, bins, left)
        cut.append(taken)
        left -= taken
    return cut


def starts_of(counts):
    """How many things lie ahead of each count where all lie in a row."""
    return [sum(counts[:place]) for place in range(len(counts))]


def wheel_of(counts, d):
    """A pair (bins, wheel), the greatest number of bins.

    The things lie in a row, colour by colour, which is wound up in turns of as many as there are bins: below
    one another lie the things of a bin. No colour is longer than a turn. Only where one starts the bins change,
    and as colours only grow along the row, the pairs rise.
    """
    bins = most_bins(counts, d)
    if bins == 0:
        return (0, ())
    cut = cut_counts(counts, d, bins)
    starts = starts_of(cut)
    changes = sorted({start % bins for start in starts})
    wheel = []
    for place, behind in zip(changes, changes[1:] + [bins]):
        colours = [colour for colour, start in enumerate(starts) if (place - start) % bins < cut[colour]]
        wheel.append((tuple(colours), behind - place))
    return (bins, tuple(wheel))


def is_choice(counts, d, colours):
    """Whether a tuple of whole numbers is a rising one of d colours."""
    return len(colours) == d and is_rising(colours) and all([0 <= colour < len(counts) for colour in colours])


def wheel_right(counts, d, told):
    """Whether a pair of a whole number and a tuple of pairs is right: the greatest number, and a wheel for it."""
    bins, wheel = told
    if bins != most_bins(counts, d) or count_of(wheel) != bins or len(wheel) > len(counts):
        return False
    if not all([is_choice(counts, d, colours) and times >= 1 for colours, times in wheel]):
        return False
    taken = counts_in(wheel)
    return is_rising([colours for colours, times in wheel]) and all([taken[one] <= counts[one] for one in taken])
