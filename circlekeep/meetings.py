"""Meetings: the first run of some kind, looked for from its beginning and from its end at once."""

from circlekeep.images import bits_of, numbers_in
from circlekeep.paths import Paths
from circlekeep.tables import Table

# As long as no more cells than these are of one length, nothing is looked for from the end.
FEW = 100


def is_within_one(bits, sets):
    """Whether a set is within one of some sets."""
    for other in sets:
        if bits & other == bits:
            return True
    return False


def greatest(sets):
    """Those of some sets that are not within others."""
    found = []
    # A set within another one is the lesser integer.
    for bits in sorted(sets, reverse=True):
        if not is_within_one(bits, found):
            found.append(bits)
    return found


class Ends:
    """What mates are driven into some states by runs, from the ends of these on.

    Mates has for each place those that can come up there. Sets has for each length, from 0 on, for each place the
    greatest sets of mates all of which are in the states behind one and the same run of this length.
    """

    def __init__(self, paths, begun):
        self.paths = paths
        self.mates = {}
        self.spread(begun)
        lost = [[number for number in self.mates.get(place, []) if not paths.strategy.is_outside(number)]
                for place in range(len(paths.steps))]
        self.sets = [{place: [bits_of(numbers)] for place, numbers in enumerate(lost)}]

    def spread(self, begun):
        """Note the mates that can come up at each place, begun being the cell of the empty run."""
        waiting = [(0, number) for number in numbers_in(begun[1])]
        known = {pair: True for pair in waiting}
        while waiting:
            place, number = waiting.pop()
            self.mates.setdefault(place, []).append(number)
            for _, follow, sight in self.paths.steps[place]:
                pairs = [(follow, further) for further in numbers_in(self.paths.images.image_of(number, sight))]
                fresh = [pair for pair in pairs if pair not in known]
                known.update({pair: True for pair in fresh})
                waiting.extend(fresh)

    def width(self):
        """How many sets there are of the greatest length."""
        return sum([len(sets) for sets in self.sets[-1].values()])

    def step_back(self):
        """Find the sets of the next greater length."""
        self.sets.append({place: self.sets_at(place) for place in self.mates})

    def sets_at(self, place):
        """The greatest sets at a place that a deed leads to within one of the sets of the greatest length."""
        found = {}
        for _, follow, sight in self.paths.steps[place]:
            images = [(1 << number, self.paths.images.image_of(number, sight)) for number in self.mates[place]]
            for end in self.sets[-1].get(follow, []):
                bits = sum([bit for bit, image in images if image & end == image])
                found[bits] = True
        return greatest(list(found))

    def is_end(self, cell, many):
        """Whether behind a cell so many deeds lead to mates all of which are in the states."""
        return is_within_one(cell[1], self.sets[many].get(cell[0], []))


class Meeting:
    """The search for the first run of a first circle all of whose mates are in some states."""

    def __init__(self, chart, follower, states):
        self.paths = Paths(chart, follower, states)
        self.table = Table(chart, follower, states)

    def first_run(self, first):
        """The run that is looked for, None if there is none; first is the core of the empty runs, or None."""
        begun = self.paths.first_cell(first)
        level = self.paths.needed([begun])
        # Nothing is asked of the ends as long as there is little to look at: most runs are found soon.
        while level and len(level) <= FEW:
            for cell in level:
                if not self.paths.outside(cell):
                    return cell[2]
            level = self.longer(level)
        # Whether there is such a run at all is soon told, and else all ends would be looked at in vain.
        if not level or self.table.explore(first) is None:
            return None
        return self.met_run(level, Ends(self.paths, begun))

    def met_run(self, level, ends):
        """The run that is looked for behind one of the cells of a level, all of one length."""
        while level:
            back = len(ends.sets) - 1
            # All lengths are tried one by one, so what is met first is a shortest run.
            for cell in level:
                if ends.is_end(cell, back):
                    return self.completed(cell, ends)
            # No more steps back than forth, as from the end much is looked at that no run comes to.
            if back < len(level[0][2]) and ends.width() < len(level):
                ends.step_back()
            else:
                level = self.longer(level)
        return None

    def completed(self, cell, ends):
        """The first run that goes on from a cell by as many deeds as there are lengths of ends."""
        for many in reversed(range(len(ends.sets) - 1)):
            cell = [follow for follow in self.paths.cells_behind(cell) if ends.is_end(follow, many)][0]
        return cell[2]

    def longer(self, level):
        """The cells that are to be looked at behind those of a level."""
        return self.paths.needed([follow for cell in level for follow in self.paths.cells_behind(cell)])
