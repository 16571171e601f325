"""Tables: the reached worlds of a first circle with mates that runs to them have."""

from heapq import heappop, heappush

from circlekeep.images import bits_of
from circlekeep.runs import sight_of
from circlekeep.strategies import Strategy


class Table:
    """Cells of places of reached worlds and numbers of mates, each with a run that leads to it.

    Looked for is a run all of whose mates are in some states: one without mates, if there are no states. There is no
    cell for a run if an earlier cell with the same world has no mates but some of those of the run, as whatever is
    found behind the run is found from there, too; nor if one mate of it follows whatever is done and can always be in
    none of the states, as nothing is found then. Such mates are the roots.
    """

    def __init__(self, chart, follower, states):
        self.chart = chart
        self.follower = follower
        self.strategy = Strategy(chart, follower, states)
        self.queue = []
        self.cells = []
        self.runs = []
        self.chosen = {}
        self.roots = {}

    def note_cell(self, place, mates, run):
        """Note a cell, if it is needed, with the run that leads to it."""
        # One bit for each mate: there are many cells, and each is compared with all earlier ones of its world.
        bits = bits_of(mates)
        earlier = self.chosen.setdefault(place, [])
        for other in earlier:
            if other & bits == other:
                return
        for number in mates:
            if self.strategy.is_won(place, number):
                self.roots[place, number] = True
                return
        earlier.append(bits)
        # Where fewest mates are left outside, a run without any is near.
        heappush(self.queue, (len(self.outside(mates)), len(self.cells)))
        self.cells.append((place, mates))
        self.runs.append(run)

    def outside(self, mates):
        """Those of some mates that are in none of the states."""
        return [number for number in mates if self.strategy.is_outside(number)]

    def look_on(self, number):
        """Note what is behind the cell with a number."""
        place, mates = self.cells[number]
        for name, follow, show in self.chart.onward[place]:
            sight = sight_of(self.follower.group, show)
            further = mates if sight is None else self.follower.moved(mates, sight)
            self.note_cell(follow, further, (*self.runs[number], name))

    def explore(self, first):
        """A run that is looked for, None if there is none; first is the core of the empty runs, or None."""
        self.note_cell(0, self.follower.mates_at_first(first), ())
        while self.queue:
            _, number = heappop(self.queue)
            if not self.outside(self.cells[number][1]):
                return self.runs[number]
            self.look_on(number)
        return None

    def told_cells(self):
        """A paper's cells, if there is no such run: ordered by their worlds, then by their mates."""
        pairs = self.strategy.pairs_from(list(self.roots))
        single = [(place, sorted({number, self.strategy.witness(number)})) for place, number in pairs]
        told = [self.told_cell(place, mates) for place, mates in [*self.cells, *single]]
        return tuple([self.cell_at(cell) for cell in sorted(told)])

    def told_cell(self, place, mates):
        """A cell with texts for things."""
        return self.chart.worlds[place], tuple(self.follower.told_mates(mates))

    def cell_at(self, told):
        """The cell that is told."""
        return self.chart.stage.world_at(told[0]), tuple([self.follower.mate_at(mate) for mate in told[1]])
