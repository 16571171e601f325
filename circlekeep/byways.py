"""Byways: two runs that begin alike, differ by one step, and go on with the same deeds, as a member sees them."""

from circlekeep.cores import Cores
from circlekeep.policies import ears_of


class Byways:
    """What comes of two runs, side by side, that tell a member the same by a policy.

    Spots are the told worlds that came up; elsewhere these are told by their numbers. A byway is a tuple (member, one,
    other, core, heard): the worlds that the two runs have come to, the told core of what the member saw on both, and
    those who were told something else on the one than on the other. A split is a tuple (names, others, heard): the
    deeds by which two runs begin to differ, and who is told something else then.
    """

    def __init__(self, stage, policy):
        circle = stage.circle
        self.stage = stage
        self.cores = Cores([stage])
        self.owners = {entry[0]: entry[1] for entry in circle.deeds}
        self.ears = [ears_of(circle, policy, member) for member in range(circle.members)]
        self.splits = [self.splits_for(member) for member in range(circle.members)]
        self.spots = []
        self.numbers = {}
        self.ends = {}
        self.starts = {}

    def splits_for(self, member):
        """All splits by which a member is told nothing else."""
        names = self.stage.circle.names
        left_out = [((name,), (), self.ears[self.owners[name]]) for name in names]
        pairs = [(name, other) for at, name in enumerate(names) for other in names[at + 1:]]
        turned = [(pair, pair[::-1], self.common_ears(*pair)) for pair in pairs if self.is_turnable(*pair)]
        return [split for split in [*left_out, *turned] if member not in split[2]]

    def is_turnable(self, name, other):
        """Whether neither of the owners of two deeds is an ear of the other one's."""
        one, two = self.owners[name], self.owners[other]
        return one not in self.ears[two] and two not in self.ears[one]

    def common_ears(self, name, other):
        """The common ears of the owners of two deeds."""
        return tuple([ear for ear in self.ears[self.owners[name]] if ear in self.ears[self.owners[other]]])

    def number_of(self, world):
        """The number of a told world."""
        number = self.numbers.setdefault(world, len(self.spots))
        if number == len(self.spots):
            self.spots.append(world)
        return number

    def end(self, number, name):
        """The number of the world behind a deed, open or not, and the told show that is seen, None if nothing is."""
        if (number, name) not in self.ends:
            step = self.stage.step(self.spots[number], name)
            self.ends[number, name] = (number, None) if step is None else (self.number_of(step[0]), step[1])
        return self.ends[number, name]

    def walked(self, number, names, member):
        """The number of the world behind some deeds, and the texts of what a member sees of them."""
        texts = []
        for name in names:
            number, show = self.end(number, name)
            if show is not None and member in show[1]:
                texts.append(show[0])
        return number, texts

    def begun(self, member, number, split):
        """The byway that a split leads to from the world with a number, None if the member sees it."""
        names, others, heard = split
        one, ahead = self.walked(number, names, member)
        other, behind = self.walked(number, others, member)
        core = self.grown_core(self.core_of_lot(self.spots[number][1][member]), ahead, behind)
        return None if core is None else (member, one, other, core, heard)

    def core_of_lot(self, lot):
        """The told core of the pairs that have each thing of a told lot twice."""
        if lot not in self.starts:
            things = self.stage.things_at(lot)
            self.starts[lot] = self.cores.core_of_pairs(self.cores.told_pairs(list(zip(things, things))))
        return self.starts[lot]

    def grown_core(self, core, ahead, behind):
        """The told core behind the texts seen on both ways, None if these are not alike."""
        if len(ahead) != len(behind):
            return None
        for pair in zip(ahead, behind):
            core = self.cores.joined_core(core, pair)
            if core is None:
                return None
        return core

    def hears(self, byway, name):
        """Whether the member is told something else behind a deed."""
        return byway[0] in self.heard_behind(byway[4], name)

    def heard_behind(self, heard, name):
        """Those who were told something else behind a deed."""
        owner = self.owners[name]
        return tuple(sorted(set([*heard, *self.ears[owner]]))) if owner in heard else heard

    def followed(self, byway, name):
        """The byway behind a deed, None if the member sees that both ways differ."""
        member, one, other, core, heard = byway
        one, ahead = self.walked(one, (name,), member)
        other, behind = self.walked(other, (name,), member)
        core = self.grown_core(core, ahead, behind)
        return None if core is None else (member, one, other, core, self.heard_behind(heard, name))


def is_plain(byway):
    """Whether both ways have come to one world and show one and the same, so that nothing can come of them."""
    return byway[1] == byway[2] and all([ahead == behind for ahead, behind in byway[3]])
