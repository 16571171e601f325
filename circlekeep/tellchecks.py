"""Checking papers that a circle is covered by another one for a group, or that it is not."""

from circlekeep.cores import Cores
from circlekeep.followers import Follower, first_core
from circlekeep.forms import ascends
from circlekeep.mates import follower_for, unlike_part
from circlekeep.readers import WorldReader
from circlekeep.runs import is_run, sight_of, sights_along
from circlekeep.stages import Stage


class CellReader:
    """Reads cells of worlds of a first circle and mates of a second one, which match, with texts for things."""

    def __init__(self, one, other):
        self.stage = Stage(one)
        self.further = Stage(other)
        self.cores = Cores([self.stage, self.further])
        self.worlds = WorldReader(self.stage)
        self.others = WorldReader(self.further)

    def told_mate(self, value):
        """A pair of a valid world of the second circle and a core with texts, None for any other value."""
        if not isinstance(value, tuple) or len(value) != 2:
            return None
        told = (self.others.told(value[0]), self.cores.told_core(value[1]))
        return None if None in told else told

    def told_cell(self, value):
        """A cell with texts, None for any other value."""
        if not isinstance(value, tuple) or len(value) != 2 or not isinstance(value[1], tuple) or not value[1]:
            return None
        world = self.worlds.told(value[0])
        mates = tuple([self.told_mate(mate) for mate in value[1]])
        if world is None or None in mates or not ascends(mates):
            return None
        return world, mates

    def told_cells(self, value):
        """Ascending cells with texts, None for any other value."""
        if not isinstance(value, tuple):
            return None
        cells = [self.told_cell(cell) for cell in value]
        return None if None in cells or not ascends(cells) else cells


def bounds_of(members, cells):
    """For each member a dict of all texts of its lots in the worlds of the mates of told cells."""
    worlds = [mate[0] for cell in cells for mate in cell[1]]
    return [{text: True for world in worlds for text in world[1][member]} for member in range(members)]


def is_among(numbers, lists):
    """Whether one of some lists has no numbers but some of these."""
    at_hand = {number: True for number in numbers}
    return any([all([number in at_hand for number in chosen]) for chosen in lists])


def are_followed(stage, follower, cells):
    """Whether behind each cell there is all that is asked for; cells have told worlds and numbers of mates."""
    numbers_at = {}
    for world, numbers in cells:
        numbers_at.setdefault(world, []).append(numbers)
    for world, numbers in cells:
        rested = follower.rested(numbers)
        steps = [stage.step(world, name) for name in stage.circle.names]
        for follow, show in [step for step in steps if step is not None]:
            sight = sight_of(follower.group, show)
            further = rested if sight is None else follower.moved(rested, sight)
            if not is_among(further, numbers_at.get(follow, [])):
                return False
    return True


def covered_holds(one, other, group, value):
    """Whether any value has the cells that show that a circle is covered by another one that matches."""
    reader = CellReader(one, other)
    told = reader.told_cells(value)
    if told is None:
        return False
    follower = Follower(reader.further, group, reader.cores, bounds_of(other.members, told))
    cells = [(world, [follower.number_of(mate) for mate in mates]) for world, mates in told]
    firsts = follower.mates_at_first(first_core(one, other, group, reader.cores))
    starts = [numbers for world, numbers in cells if world == reader.stage.start]
    return is_among(firsts, starts) and are_followed(reader.stage, follower, cells)


def states_behind(one, other, group, run):
    """The states of the mates that a run of a circle has in another one that matches."""
    stage = Stage(one)
    follower = follower_for(stage, Stage(other), group)
    first = first_core(one, other, group, follower.cores)
    return follower.states_of(follower.mates_along(first, sights_along(stage, run, group)))


def tells_holds(one, other, group, value):
    """Whether any value is a run of a circle that has no mates in another one that matches."""
    return is_run(one, value) and not states_behind(one, other, group, value)


def telling_holds(one, other, group, thing):
    """Whether any value is a paper that a circle is covered by another one for a group, or that it is not."""
    if unlike_part(one, other) is not None or not isinstance(thing, tuple) or len(thing) != 2:
        return False
    if thing[0] == "covered":
        return covered_holds(one, other, group, thing[1])
    return thing[0] == "tells" and tells_holds(one, other, group, thing[1])
