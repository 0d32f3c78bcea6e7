"""The bench: things are put as they come into one open lot, which is shut as soon as it is full."""

MOST_PART = 60


def part_by(need, greatest):
    """The greatest k from 1 to 60 such that k times the greatest size isn't above the need; 1 where it itself is."""
    return max(1, min(MOST_PART, need // greatest))


class Bench:
    """A bench by a need."""

    def __init__(self, need):
        self.need = need
        self.shut = []
        self.lying = []
        self.greatest = 0

    def put(self, size):
        """Puts a thing into the open lot; whether that shuts it."""
        self.greatest = max(self.greatest, size)
        self.lying.append(size)
        if sum(self.lying) < self.need:
            return False
        self.shut.append(self.open_lot())
        self.lying = []
        return True

    def shut_lots(self):
        """The list of the shut lots, the first shut first."""
        return list(self.shut)

    def open_lot(self):
        """The sorted tuple of what lies in the open lot."""
        return tuple(sorted(self.lying))

    def part_of(self):
        """The part of the things that came; 60 where none came."""
        if self.greatest == 0:
            return MOST_PART
        return part_by(self.need, self.greatest)

    def bound_so(self):
        """A bound for the count of any filling of all things that came."""
        part = self.part_of()
        return ((part + 1) * len(self.shut) + part - 1) // part
