"""Charts: all reached worlds of a circle."""

from circlekeep.errors import TooMany
from circlekeep.stages import Stage


class Chart:
    """The reached worlds of a circle, as its stage tells them, in the order of the first runs to them.

    Of each world, runs has the first run, and onward has for each deed that is open there its name, the number of
    the world behind it, and the told show.
    """

    def __init__(self, circle, most):
        self.stage = Stage(circle)
        self.most = most
        self.worlds = []
        self.places = {}
        self.runs = []
        self.onward = []
        self.reach(self.stage.start, ())
        while len(self.onward) < len(self.worlds):
            self.look_on(len(self.onward))

    def reach(self, world, run):
        """The number of a world that is reached by a run; raises TooMany."""
        if world not in self.places:
            if len(self.worlds) >= self.most:
                raise TooMany(self.most)
            self.places[world] = len(self.worlds)
            self.worlds.append(world)
            self.runs.append(run)
        return self.places[world]

    def look_on(self, number):
        """Do all deeds that are open in the world with a number."""
        # By names ascending, so that each world is reached by its first run first.
        found = []
        for name in self.stage.circle.names:
            step = self.stage.step(self.worlds[number], name)
            if step is not None:
                found.append((name, self.reach(step[0], (*self.runs[number], name)), step[1]))
        self.onward.append(found)
