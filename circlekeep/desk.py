"""Desks: a circle, and what has been done in it."""

from circlekeep.errors import NothingToRedo, NothingToUndo
from circlekeep.forms import is_within
from circlekeep.having import is_had
from circlekeep.knowing import possible_states
from circlekeep.runs import seen
from circlekeep.worlds import behind, is_open, lot_row, start_of


class Desk:
    """A circle and a run that grows deed by deed; deeds can be taken back, and put again."""

    def __init__(self, circle):
        self.circle = circle
        self.run = ()
        self.world = start_of(circle)
        self.earlier = []
        self.undone = []

    def __len__(self):
        return len(self.run)

    def put(self, name):
        """Put a deed behind the run."""
        self.earlier.append(self.world)
        self.world = behind(self.circle, self.world, name)
        self.run = (*self.run, name)

    def do(self, name):
        """Do the deed with a name, or try it; tells whether it was open; raises NoDeed for any other value."""
        opened = is_open(self.circle, self.world, name)
        self.put(name)
        self.undone = []
        return opened

    def undo(self):
        """Take the last deed back; raises NothingToUndo."""
        if not self.run:
            raise NothingToUndo()
        self.undone.append(self.run[-1])
        self.run = self.run[:-1]
        self.world = self.earlier.pop()

    def redo(self):
        """Put the deed again that was taken back last; raises NothingToRedo."""
        if not self.undone:
            raise NothingToRedo()
        self.put(self.undone.pop())

    def row(self, group):
        """The row of a group behind the run."""
        return seen(self.circle, self.run, group)

    def has(self, group, thing):
        """Whether a group can have any value behind the run."""
        return is_had(lot_row(self.circle, self.world, group), thing)

    def knows(self, group, states, most=200):
        """Whether a group knows behind the run that the state is among some states; raises TooMany."""
        return is_within(possible_states(self.circle, group, self.run, most), states)
