"""Things in order, as Python compares."""


def is_rising(things):
    """Whether each thing is above the one ahead of it."""
    return all([one < other for one, other in zip(things, things[1:])])


def is_sorted(things):
    """Whether no thing is below the one ahead of it."""
    return all([one <= other for one, other in zip(things, things[1:])])
