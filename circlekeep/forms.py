"""Tests of plain values that several modules need."""


def is_whole(value, low, high):
    """Whether any value is an integer from low on and below high."""
    return isinstance(value, int) and not isinstance(value, bool) and low <= value < high


def ascends(items):
    """Whether a list of values that can be compared ascends, none of them twice."""
    return all([items[at] < items[at + 1] for at in range(len(items) - 1)])


def is_within(items, others):
    """Whether all of some items are among others."""
    return all([item in others for item in items])


def choices_of(items):
    """All tuples of some items in their order, each behind those that are shorter."""
    found = [()]
    for item in items:
        found = [*found, *[(*chosen, item) for chosen in found]]
    return sorted(found, key=len)
