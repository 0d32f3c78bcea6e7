"""The bench: things are put as they come into one open lot, which is shut as soon as it is full."""

MOST_PART = 60


def part_by(need, greatest):
    """The part of things by the greatest size among them, 0 where there are none."""
    if greatest == 0:
        return MOST_PART
    return max(1, min(MOST_PART, need // greatest))


def bound_by(part, count):
    """The bound for the count of any filling where so many lots came of things of that part."""
    return ((part + 1) * count + part - 1) // part


class Bench:
    """A bench by a need."""

    def __init__(self, need):
        self.need = need
        self.shut = []
        self.lying = []
        self.greatest = 0

    def put(self, size):
        """Puts a thing into the open lot; whether that shuts it."""
        self.greatest = max(self.greatest, size)
        self.lying.append(size)
        if sum(self.lying) < self.need:
            return False
        self.shut.append(self.open_lot())
        self.lying = []
        return True

    def shut_lots(self):
        """The list of the shut lots, the first shut first."""
        return list(self.shut)

    def open_lot(self):
        """The sorted tuple of what lies in the open lot."""
        return tuple(sorted(self.lying))

    def part_of(self):
        """The part of the things that came; 60 where none came."""
        return part_by(self.need, self.greatest)

    def bound_so(self):
        """A bound for the count of any filling of all things that came."""
        return bound_by(self.part_of(), len(self.shut))
