"""Texts of numbers, ratios, heaps and fillings, and what is read back of them."""

from brimyard.errors import NoText
from brimyard.heaps import GREATEST, is_heap
from brimyard.lots import is_lot
from brimyard.orders import is_rising

MOST_FIGURES = 13
PIECE_FIGURES = 60
PIECE = 10 ** 60


def number_text(number):
    """The figures of a whole number.

    They are written piece by piece, as Python writes no number of very many figures at once.
    """
    if number < 0:
        return "-" + number_text(-number)
    pieces = []
    while number >= PIECE:
        number, low = divmod(number, PIECE)
        pieces.append(str(low).zfill(PIECE_FIGURES))
    pieces.append(str(number))
    return "".join(reversed(pieces))


def ratio_text(one):
    """The top and, where the bottom isn't 1, a stroke and this."""
    top, bottom = one
    if bottom == 1:
        return number_text(top)
    return number_text(top) + "/" + number_text(bottom)


def heap_text(heap):
    """The need and the kinds of the heap."""
    need, kinds = heap
    words = [number_text(size) + "x" + number_text(many) for size, many in kinds]
    return " ".join(["need", number_text(need)] + words)


def row_text(words):
    """The words with a blank between, a dot where there are none."""
    if len(words) == 0:
        return "."
    return " ".join(words)


def lot_text(lot):
    """The sizes of the lot."""
    return "+".join([number_text(size) for size in lot])


def filling_text(filling):
    """The lots of the filling with their times."""
    return row_text([lot_text(lot) + "*" + number_text(times) for lot, times in filling])


def read_number(word):
    """The whole number from 1 to 10 ** 12 that a word writes; NoText."""
    if not word.isascii() or not word.isdigit() or word.startswith("0") or len(word) > MOST_FIGURES:
        raise NoText("this isn't a number as it is written")
    number = int(word)
    if number > GREATEST:
        raise NoText("the number is above 10 ** 12")
    return number


def words_of(thing):
    """The words of a text; NoText, of anything."""
    if not isinstance(thing, str):
        raise NoText("this isn't a text")
    return thing.split(" ")


def read_kind(word):
    """The pair (size, many) that a word writes; NoText."""
    size, sign, many = word.partition("x")
    return (read_number(size), read_number(many))


def read_heap(thing):
    """The heap that a text writes; NoText, of anything."""
    words = words_of(thing)
    if len(words) < 2 or words[0] != "need":
        raise NoText("this isn't a heap's text")
    heap = (read_number(words[1]), tuple([read_kind(word) for word in words[2:]]))
    if not is_heap(heap):
        raise NoText("the kinds aren't those of a heap")
    return heap


def read_times(word):
    """The pair (lot, times) that a word writes; NoText."""
    sizes, sign, times = word.partition("*")
    lot = tuple([read_number(size) for size in sizes.split("+")])
    if not is_lot(lot):
        raise NoText("this isn't a lot")
    return (lot, read_number(times))


def read_filling(thing):
    """The rising tuple of pairs (lot, times) that a text writes; NoText, of anything."""
    words = words_of(thing)
    if words == ["."]:
        return ()
    pairs = [read_times(word) for word in words]
    if not is_rising([lot for lot, times in pairs]):
        raise NoText("the lots don't rise")
    return tuple(pairs)
