"""Values that several tests share."""

GREATEST = 10 ** 12


class Odd:
    """A thing of a kind that the program doesn't know."""


def no_wholes():
    """Things of many kinds, none of them a whole number, a tuple or a list."""
    return [
        None, True, False, "", "7", "text", b"", b"7", {}, {1: 2}, {"need": 1}, set(), {1, 2}, frozenset([3]),
        range(3), Odd(), Odd, len, lambda: 1, Ellipsis, iter([1]), bytearray(b"7"), ValueError("7"),
    ]


def no_sizes():
    """Things that are no size, no need and no count of like things."""
    return no_wholes() + [0, -1, -GREATEST, GREATEST + 1, 10 ** 60, [], [5], (), (5,), (5, 1, 1), ((),)]
