"""Followers: second circles in which a group sees what looks like that which it sees in a first one."""

from circlekeep.runs import sight_of


class Follower:
    """What a second circle has for what a group sees in a first one, step by step.

    A told mate is a pair of a told world of the second circle and a told core; mates has those that came up, and
    elsewhere they are told by their numbers. A sight is a pair of a text and those of the group who see it. Where
    bounds are given, a dict of texts for each member, nobody looks at worlds whose lots are not within them.
    """

    def __init__(self, stage, group, cores, bounds=None):
        self.stage = stage
        self.group = group
        self.cores = cores
        self.bounds = bounds
        self.mates = []
        self.numbers = {}
        self.ends = {}
        self.rests = {}
        self.moves = {}

    def number_of(self, mate):
        """The number of a told mate."""
        number = self.numbers.setdefault(mate, len(self.mates))
        if number == len(self.mates):
            self.mates.append(mate)
        return number

    def is_within(self, world):
        """Whether the lots of a told world are within the bounds."""
        if self.bounds is None:
            return True
        return all([text in bound for lot, bound in zip(world[1], self.bounds) for text in lot])

    def ends_at(self, world):
        """For each deed that is open in a told world its name, the told world behind it, what the group sees then."""
        if world not in self.ends:
            steps = [(name, self.stage.step(world, name)) for name in self.stage.circle.names]
            within = [(name, step) for name, step in steps if step is not None and self.is_within(step[0])]
            self.ends[world] = [(name, step[0], sight_of(self.group, step[1])) for name, step in within]
        return self.ends[world]

    def quiet_from(self, world):
        """The told worlds to which open deeds that show the group nothing lead from one, itself among them."""
        found = {world: True}
        waiting = [world]
        while waiting:
            current = waiting.pop()
            for _, follow, sight in self.ends_at(current):
                if sight is None and follow not in found:
                    found[follow] = True
                    waiting.append(follow)
        return list(found)

    def resting(self, number):
        """The mates that follow a mate while the group sees nothing, itself among them."""
        if number not in self.rests:
            world, core = self.mates[number]
            self.rests[number] = [self.number_of((follow, core)) for follow in self.quiet_from(world)]
        return self.rests[number]

    def grown_core(self, core, sight, other):
        """The told core behind what is seen in the first circle and in the second one, None if it is not alike."""
        if sight is None or other is None:
            return core if sight == other else None
        return self.cores.joined_core(core, (sight[0], other[0])) if sight[1] == other[1] else None

    def mates_by(self, number, sight, ends):
        """The mates that follow a mate by one of some deeds that are open there, for a sight in the first circle."""
        core = self.mates[number][1]
        found = [(follow, self.grown_core(core, sight, other)) for _, follow, other in ends]
        return [self.number_of(mate) for mate in found if mate[1] is not None]

    def twins(self, number, sight, name):
        """The mates, one or none, that follow a mate by the deed with a name alone."""
        ends = self.ends_at(self.mates[number][0])
        return self.mates_by(number, sight, [end for end in ends if end[0] == name])

    def moving(self, number, sight):
        """The mates that follow a mate by an open deed and others behind it, just one thing being seen."""
        if (number, sight) not in self.moves:
            ends = self.ends_at(self.mates[number][0])
            self.moves[number, sight] = self.rested(self.mates_by(number, sight, ends))
        return self.moves[number, sight]

    def rested(self, numbers):
        """The mates that follow some mates while the group sees nothing, these among them."""
        return merged([self.resting(number) for number in numbers])

    def moved(self, numbers, sight):
        """The mates that follow some mates by an open deed and others behind it, just one thing being seen."""
        return merged([self.moving(number, sight) for number in numbers])

    def mates_at_first(self, first):
        """The mates of the empty run, the group seeing alike behind both empty runs with a core, or None if unlike."""
        return () if first is None else self.rested([self.number_of((self.stage.start, first))])

    def mates_along(self, first, sights):
        """The mates of a run of the first circle that lets the group see some sights; first is as above."""
        numbers = self.mates_at_first(first)
        for sight in sights:
            numbers = self.moved(numbers, sight)
        return numbers

    def states_of(self, numbers):
        """The ascending tuple of the states of some mates."""
        return tuple(sorted({self.mates[number][0][0] for number in numbers}))

    def told_mates(self, numbers):
        """Some mates as they are ordered: by their worlds, then by their cores."""
        return sorted([self.mates[number] for number in numbers])

    def mate_at(self, told):
        """The mate that is told."""
        return self.stage.world_at(told[0]), self.cores.core_at(told[1])


def merged(lists):
    """The numbers in some lists, ascending, each once."""
    return tuple(sorted({number for numbers in lists for number in numbers}))


def first_core(one, other, group, cores):
    """The told core of a group's rows behind the empty runs of two circles, None if it does not see alike there."""
    if any([len(one.firsts[member]) != len(other.firsts[member]) for member in group]):
        return None
    pairs = [pair for member in group for pair in zip(one.firsts[member], other.firsts[member])]
    return cores.core_of_pairs(cores.told_pairs(pairs))
