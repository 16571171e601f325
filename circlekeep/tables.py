"""Tables: the search for a run without mates, and for cells that show that there is none."""

from heapq import heappop, heappush

from circlekeep.images import numbers_in
from circlekeep.paths import Paths


class Table:
    """The cells that lead to a run all of whose mates are in some states, or show that there is none."""

    def __init__(self, chart, follower, states):
        self.chart = chart
        self.follower = follower
        self.paths = Paths(chart, follower, states)
        self.queue = []
        self.cells = []

    def note(self, cells):
        """Note those of some cells that are to be looked at."""
        for cell in self.paths.needed(cells):
            # Where fewest mates are left outside, a run without any is near.
            heappush(self.queue, (len(self.paths.outside(cell)), len(self.cells)))
            self.cells.append(cell)

    def explore(self, first):
        """A run that is looked for, None if there is none; first is the core of the empty runs, or None."""
        self.note([self.paths.first_cell(first)])
        while self.queue:
            left, number = heappop(self.queue)
            cell = self.cells[number]
            if left == 0:
                return cell[2]
            self.note(self.paths.cells_behind(cell))
        return None

    def won_pairs(self):
        """The pairs of a place and a mate that follows whatever is done, and what answers for those that came up."""
        roots = [(place, number) for place, bits in self.paths.won.items() for number in numbers_in(bits)]
        return self.paths.strategy.pairs_from(roots)

    def told_cells(self):
        """A paper's cells, if there is no such run: ordered by their worlds, then by their mates."""
        told = [self.told_cell(place, numbers_in(bits)) for place, bits, _ in self.cells]
        for place, number in self.won_pairs():
            witness = self.paths.strategy.witness(number)
            told.append(self.told_cell(place, sorted({number, witness})))
        return tuple([self.cell_at(cell) for cell in sorted(told)])

    def told_cell(self, place, mates):
        """A cell with texts for things."""
        return self.chart.worlds[place], tuple(self.follower.told_mates(mates))

    def cell_at(self, told):
        """The cell that is told."""
        return self.chart.stage.world_at(told[0]), tuple([self.follower.mate_at(mate) for mate in told[1]])
