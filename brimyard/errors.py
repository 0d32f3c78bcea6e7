"""The refusals."""


class BrimError(ValueError):
    """Any refusal."""


class NoRatio(BrimError):
    """A ratio with nought as its bottom."""


class NoHeap(BrimError):
    """What no heap can be made of."""


class NoLot(BrimError):
    """A lot that the heap hasn't the things for, or that isn't full."""


class Unlike(BrimError):
    """Heaps of unlike needs."""


class TooMany(BrimError):
    """More than a bound lets."""


class NoSize(BrimError):
    """A size that the heap hasn't."""


class TooFew(BrimError):
    """Fewer things than lots."""


class NoText(BrimError):
    """What isn't a text that can be read back."""


class NoRow(BrimError):
    """A row that the desk doesn't know."""


class NoBack(BrimError):
    """No deed is left to take back."""
