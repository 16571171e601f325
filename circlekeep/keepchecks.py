"""Checking papers that a circle keeps a thing from a group, or that it does not."""

from circlekeep.forms import ascends
from circlekeep.having import judge_holds
from circlekeep.rows import Row
from circlekeep.runs import is_run, seen
from circlekeep.stages import Stage, pooled
from circlekeep.worlds import is_world


def is_kept_cell(circle, value):
    """Whether any value is a pair of a valid world and something."""
    return isinstance(value, tuple) and len(value) == 2 and is_world(circle, value[0])


def kept_holds(circle, group, about, cells):
    """Whether any value has the cells that show that a circle keeps a thing from a group."""
    if not isinstance(cells, tuple) or not all([is_kept_cell(circle, cell) for cell in cells]):
        return False
    stage = Stage(circle)
    worlds = [stage.told_world(world) for world, _ in cells]
    there = {world: True for world in worlds}
    if not ascends(worlds) or stage.start not in there:
        return False
    steps = [stage.step(world, name) for world in worlds for name in circle.names]
    if not all([step is None or step[0] in there for step in steps]):
        return False
    rows = [Row(circle.book, stage.things_at(pooled(world, group))) for world in worlds]
    return all([judge_holds(row, about, ("closed", closed)) for row, (_, closed) in zip(rows, cells)])


def keeping_holds(circle, group, about, thing):
    """Whether any value is a paper that a circle keeps a thing from a group, or that it does not."""
    if not isinstance(thing, tuple) or not 2 <= len(thing) <= 3:
        return False
    if thing[0] == "kept" and len(thing) == 2:
        return kept_holds(circle, group, about, thing[1])
    if thing[0] != "had" or len(thing) != 3 or not is_run(circle, thing[1]):
        return False
    return judge_holds(seen(circle, thing[1], group), about, ("had", thing[2]))
