"""Shares: secret names that are dealt out to groups."""

from circlekeep.books import standard_book
from circlekeep.circles import Circle


def share_of(name, group, keys):
    """A name locked by the own keys of the members of a group, the first one's innermost."""
    share = name
    for member in group:
        share = ("lock", share, keys[member])
    return share


def shares_of(name, groups, keys):
    """The shares of a name for some groups of the members that have the own keys."""
    return tuple([share_of(name, group, keys) for group in groups])


def dealt(name, groups, keys):
    """The circle without deeds in which each member has its own key and all shares at first."""
    shares = shares_of(name, groups, keys)
    return Circle(standard_book(), len(keys), 1, (), tuple([(key, *shares) for key in keys]))
