"""Policies: to whom it may be told what a member does, and what it has been told."""

from circlekeep.forms import ascends, is_whole


def is_leave(circle, value):
    """Whether any value is a pair of two different members of a circle."""
    if not isinstance(value, tuple) or len(value) != 2:
        return False
    return all([is_whole(member, 0, circle.members) for member in value]) and value[0] != value[1]


def is_policy(circle, thing):
    """Whether any value is an ascending tuple of pairs of two different members of a circle."""
    return isinstance(thing, tuple) and all([is_leave(circle, pair) for pair in thing]) and ascends(thing)


def ears_of(circle, policy, member):
    """The ascending tuple of those who are told what a member does."""
    return tuple([ear for ear in range(circle.members) if ear == member or (member, ear) in policy])


class Hearsay:
    """Numbers for all that runs tell members: nothing has 0, and equal triples have equal numbers."""

    def __init__(self, circle, policy):
        self.circle = circle
        self.policy = policy
        self.numbers = {}

    def number_of(self, triple):
        """The number of a triple: what was told to the one and to the other one, in numbers, and the deed's name."""
        return self.numbers.setdefault(triple, len(self.numbers) + 1)

    def told_by(self, run):
        """For each member the number of what a run tells it."""
        told = [0] * self.circle.members
        for name in run:
            owner = self.circle.by_name[name][1]
            ears = ears_of(self.circle, self.policy, owner)
            told = [self.number_of((heard, told[owner], name)) if member in ears else heard
                    for member, heard in enumerate(told)]
        return told


def tell_alike(circle, policy, run, other, member):
    """Whether two runs tell a member the same."""
    hearsay = Hearsay(circle, policy)
    return hearsay.told_by(run)[member] == hearsay.told_by(other)[member]
