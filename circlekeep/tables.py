"""Tables: the reached worlds of a first circle with mates that runs to them have."""

from heapq import heappop, heappush

from circlekeep.runs import sight_of
from circlekeep.strategies import Strategy


class Table:
    """Cells of places of reached worlds and numbers of mates, each with a run that leads to it.

    Looked for is a run that has no mates, the first one unless the table is hasty. There is no cell for a run if an
    earlier cell with the same world has no mates but some of those of the run, as whatever is found behind the run is
    found from there, too; nor if one mate of it follows whatever is done, as nothing is found then. Such mates are the
    roots.
    """

    def __init__(self, chart, follower, hasty):
        self.chart = chart
        self.follower = follower
        self.hasty = hasty
        self.strategy = Strategy(chart, follower)
        self.queue = []
        self.cells = []
        self.runs = []
        self.chosen = {}
        self.roots = {}

    def note_cell(self, place, mates, run):
        """Note a cell, if it is needed, with the run that leads to it."""
        # One bit for each mate: there are many cells, and each is compared with all earlier ones of its world.
        bits = sum([1 << number for number in mates])
        earlier = self.chosen.setdefault(place, [])
        for other in earlier:
            if other & bits == other:
                return
        for number in mates:
            if self.strategy.is_won(place, number):
                self.roots[place, number] = True
                return
        earlier.append(bits)
        # Where fewest mates are left, a run without any is near; else all is looked at in the order of the runs.
        heappush(self.queue, (len(mates) if self.hasty else 0, len(self.cells)))
        self.cells.append((place, mates))
        self.runs.append(run)

    def look_on(self, number):
        """Note what is behind the cell with a number."""
        place, mates = self.cells[number]
        for name, follow, show in self.chart.onward[place]:
            sight = sight_of(self.follower.group, show)
            further = mates if sight is None else self.follower.moved(mates, sight)
            self.note_cell(follow, further, (*self.runs[number], name))

    def explore(self, first):
        """The run that is looked for, None if there is none; first is the core of the empty runs, or None."""
        self.note_cell(0, self.follower.mates_at_first(first), ())
        while self.queue:
            _, number = heappop(self.queue)
            if not self.cells[number][1]:
                return self.runs[number]
            self.look_on(number)
        return None

    def told_cells(self):
        """A paper's cells, if there is no such run: ordered by their worlds, then by their mates."""
        single = [(place, (number,)) for place, number in self.strategy.pairs_from(list(self.roots))]
        told = [self.told_cell(place, mates) for place, mates in [*self.cells, *single]]
        return tuple([self.cell_at(cell) for cell in sorted(told)])

    def told_cell(self, place, mates):
        """A cell with texts for things."""
        return self.chart.worlds[place], tuple(self.follower.told_mates(mates))

    def cell_at(self, told):
        """The cell that is told."""
        return self.chart.stage.world_at(told[0]), tuple([self.follower.mate_at(mate) for mate in told[1]])
