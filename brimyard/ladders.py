"""Papers of weights: tuples (bottom, weights, ladder)."""

from brimyard.orders import is_sorted

MOST_BOTTOM = 60


def is_ladder(need, bottom, ladder):
    """Whether a tuple of whole numbers is a ladder of so many, the bottom from 1 on."""
    return len(ladder) == bottom and ladder[0] >= 0 and is_sorted(ladder) and ladder[-1] < need


def bears(ladder, size, weight):
    """Whether a thing more raises no place of the ladder above the place that it leads to."""
    return all([low + size <= high for low, high in zip(ladder, ladder[weight:])])


def ladder_holds(heap, paper):
    """Whether a triple of a whole number and two tuples of whole numbers is a paper for the heap that holds."""
    need, kinds = heap
    bottom, weights, ladder = paper
    if not 1 <= bottom <= MOST_BOTTOM or not is_ladder(need, bottom, ladder):
        return False
    if len(weights) != len(kinds) or not all([1 <= weight <= bottom for weight in weights]):
        return False
    return all([bears(ladder, size, weight) for (size, many), weight in zip(kinds, weights)])


def bound_of(heap, paper):
    """The whole part of the weights of all things of the heap together by the bottom."""
    bottom, weights, ladder = paper
    return sum([many * weight for (size, many), weight in zip(heap[1], weights)]) // bottom


def next_sum(sums, sizes, weights):
    """The greatest sum at the place behind those in a list of greatest sums."""
    place = len(sums)
    reached = [sums[place - weight] + size for size, weight in zip(sizes, weights) if weight <= place]
    return max(reached + [sums[-1]])


def least_ladder(need, sizes, weights, bottom):
    """The ladder of the greatest sums of things that weigh so much at most.

    None where the last of them isn't below the need.
    """
    sums = [0]
    while len(sums) < bottom:
        sums.append(next_sum(sums, sizes, weights))
    if sums[-1] >= need:
        return None
    return tuple(sums)
