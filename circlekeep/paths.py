"""Paths: runs of a first circle, and what mates they have.

A cell is a tuple (place, bits, run): the place of a reached world, the set of the mates of a run to it, and this run.
"""

from circlekeep.images import Images, bits_of, numbers_in
from circlekeep.runs import sight_of
from circlekeep.strategies import Strategy


class Paths:
    """The cells of runs of which all mates may come to be in some states; with no states, of which none may be left.

    There is no need to look at a cell if an earlier one of the same place has no mates but some of its mates, as what
    is found behind the one is found behind the other, too; nor if one of its mates follows whatever is done and can
    always be in none of the states, as nothing is found then. Of each place, steps has for each deed that is open
    there its name, the place behind it, and what the group sees; won has the set of the mates of the latter sort that
    came up.
    """

    def __init__(self, chart, follower, states):
        self.follower = follower
        self.strategy = Strategy(chart, follower, states)
        self.images = Images(follower)
        self.steps = [[(name, follow, sight_of(follower.group, show)) for name, follow, show in onward]
                      for onward in chart.onward]
        self.known = {}
        self.chosen = {}
        self.lost = {}
        self.won = {}

    def first_cell(self, first):
        """The cell of the empty run; first is the told core of both empty runs, None if they are unlike."""
        return 0, bits_of(self.follower.mates_at_first(first)), ()

    def cells_behind(self, cell):
        """The cells that are longer by a deed that is open, in the order of their runs."""
        place, bits, run = cell
        return [(follow, self.images.image(bits, sight), (*run, name)) for name, follow, sight in self.steps[place]]

    def outside(self, cell):
        """The numbers of the mates of a cell that are in none of the states."""
        return [number for number in numbers_in(cell[1]) if self.strategy.is_outside(number)]

    def needed(self, cells):
        """Those of some cells that are to be looked at, the earlier ones being noted first."""
        found = []
        for cell in cells:
            place, bits, _ = cell
            # Most of them came up before, just as they are.
            if (place, bits) not in self.known:
                self.known[place, bits] = True
                if not self.has_won(cell) and not self.is_outdone(cell):
                    self.chosen.setdefault((place, bits.bit_length()), []).append(bits)
                    found.append(cell)
        return found

    def is_outdone(self, cell):
        """Whether an earlier cell of the same place has no mates but some of those of a cell."""
        place, bits, _ = cell
        for number in numbers_in(bits):
            for other in self.chosen.get((place, number + 1), []):
                if other & bits == other:
                    return True
        return False

    def has_won(self, cell):
        """Whether a mate of a cell follows whatever is done, and can always be in none of the states."""
        place, bits, _ = cell
        if bits & self.won.get(place, 0):
            return True
        lost = self.lost.get(place, 0)
        for number in numbers_in(bits & lost ^ bits):
            if self.strategy.is_won(place, number):
                self.won[place] = self.won.get(place, 0) | 1 << number
                return True
        self.lost[place] = lost | bits
        return False
