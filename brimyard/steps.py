"""Steps: papers of weights by which each size weighs about as much as it is of the need."""

from brimyard.ladders import MOST_BOTTOM, bound_of
from brimyard.ratios import rounded_up


def steps_of(heap, k):
    """The paper of the steps of k for the heap."""
    need, kinds = heap
    weights = [min(k, rounded_up(k * size, need)) for size, many in kinds]
    ladder = [place * need // k for place in range(k)]
    return (k, tuple(weights), tuple(ladder))


def best_steps(heap):
    """A pair (bound, k): the least bound of all steps, and the least k that has it."""
    return min([(bound_of(heap, steps_of(heap, k)), k) for k in range(1, MOST_BOTTOM + 1)])
