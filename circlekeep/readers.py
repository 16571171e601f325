"""Readers: worlds of papers, with texts for their things."""

from circlekeep.forms import is_whole
from circlekeep.memories import Memory, outline
from circlekeep.worlds import is_world


class WorldReader:
    """Reads worlds of the circle of a stage."""

    def __init__(self, stage):
        self.stage = stage
        self.memory = Memory()

    def told(self, value):
        """A valid world with texts, None for any other value."""
        # True is no state, though it is equal to one.
        if not isinstance(value, tuple) or len(value) != 2 or not is_whole(value[0], 0, self.stage.circle.states):
            return None
        key = (value[0], outline(value[1]))
        told = self.memory.recalled(key, value)
        if told is None and is_world(self.stage.circle, value):
            told = self.stage.told_world(value)
            self.memory.keep(key, value, told)
        return told
