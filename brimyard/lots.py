"""Lots: sorted tuples of one to a hundred sizes."""

from brimyard.errors import NoLot
from brimyard.heaps import MOST_THINGS, is_size
from brimyard.orders import is_sorted


def is_lot(thing):
    """Whether a thing is a lot; of anything."""
    if not isinstance(thing, tuple) or not 1 <= len(thing) <= MOST_THINGS:
        return False
    # The sizes are judged first: only they can be compared.
    return all([is_size(size) for size in thing]) and is_sorted(thing)


def is_full(need, lot):
    """Whether the lot comes to the need at least."""
    return sum(lot) >= need


def is_lean(need, lot):
    """Whether the lot is full, but isn't without one of its least things."""
    return is_full(need, lot) and not is_full(need, lot[1:])


def lean_of(need, lot):
    """The lean lot that is left of a full one when its least things are taken out; NoLot of another."""
    if not is_full(need, lot):
        raise NoLot("the lot isn't full")
    while is_full(need, lot[1:]):
        lot = lot[1:]
    return lot
