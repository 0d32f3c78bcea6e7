"""The desk: a heap that is changed and asked about by rows of words."""

from brimyard.ahead import made_ahead
from brimyard.changes import further_size, needed_sizes
from brimyard.errors import NoBack, NoRow, NoText
from brimyard.heaps import heap_less, put_beside, total_of
from brimyard.mosts import bins_of
from brimyard.shares import shares_of
from brimyard.stair import MOST_ON_STAIR, full_by
from brimyard.steps import best_steps
from brimyard.texts import filling_text, heap_text, number_text, ratio_text, read_heap, read_number, row_text


def show_told(heap):
    """The heap."""
    return heap_text(heap)


def total_told(heap):
    """What all its things come to."""
    return number_text(total_of(heap))


def steps_told(heap):
    """The best steps' bound and k."""
    bound, k = best_steps(heap)
    return row_text([number_text(bound), number_text(k)])


def sum_told(heap):
    """The shares' sum."""
    return ratio_text(shares_of(heap)[0])


def most_told(heap):
    """The most."""
    return number_text(bins_of(heap))


def ahead_told(heap):
    """The filling that is made ahead."""
    return filling_text(made_ahead(heap))


def needed_told(heap):
    """The needed sizes."""
    return row_text([number_text(size) for size in needed_sizes(heap)])


def further_told(heap):
    """The further size."""
    return number_text(further_size(heap)[0])


QUESTIONS = {
    "show": show_told, "total": total_told, "steps": steps_told, "sum": sum_told,
    "most": most_told, "ahead": ahead_told, "needed": needed_told, "further": further_told,
}
# How many numbers a row has behind its word.
NUMBERS = {"put": 2, "take": 2, "stair": 1, "back": 0}


def read_values(row):
    """What stands behind the word of a row: the heap of a need row, else numbers; NoText."""
    words = row.split(" ")
    if words[0] == "need":
        return [read_heap(row)]
    return [read_number(word) for word in words[1:]]


def is_row(word, values):
    """Whether a word and what stands behind it are a row."""
    if word == "need":
        return True
    if word == "stair" and len(values) == 1:
        return values[0] <= MOST_ON_STAIR
    return (word in QUESTIONS and len(values) == 0) or NUMBERS.get(word) == len(values)


def read_row(row):
    """A pair (word, values) of any text; NoRow of what is none of the rows."""
    word = row.partition(" ")[0]
    try:
        values = read_values(row)
    except NoText:
        raise NoRow("a number or a heap isn't written so") from None
    if not is_row(word, values):
        raise NoRow("there is no such row")
    return (word, values)


def changed_heap(heap, word, values):
    """The heap behind a deed; TooMany of put, NoLot of take."""
    if word == "need":
        return values[0]
    size, many = values
    if word == "put":
        return put_beside(heap, (heap[0], ((size, many),)))
    return heap_less(heap, {size: many})


class Desk:
    """A desk with a heap, at first of need 1 without things."""

    def __init__(self):
        self.heap = (1, ())
        self.past = []

    def say(self, row):
        """The answer to a row; NoRow, then NoBack, then as told."""
        word, values = read_row(row)
        if word in QUESTIONS:
            question = QUESTIONS[word]
            return question(self.heap)
        if word == "stair":
            return number_text(full_by(self.heap, values[0])[0])
        if word == "back":
            self.take_back()
        else:
            self.keep(changed_heap(self.heap, word, values))
        return "ok"

    def keep(self, heap):
        """Does a deed: the heap is this one now."""
        self.past.append(self.heap)
        self.heap = heap

    def take_back(self):
        """Takes the last deed back; NoBack where none is left."""
        if len(self.past) == 0:
            raise NoBack("no deed is left")
        self.heap = self.past.pop()
