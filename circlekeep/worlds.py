"""Worlds: the state of a circle and what each member has at first and has seen."""

from circlekeep.charts import Chart
from circlekeep.forms import is_whole
from circlekeep.having import are_ascending
from circlekeep.hoards import Hoard
from circlekeep.rows import Row
from circlekeep.things import ascending


def is_world(circle, thing):
    """Whether any value is a pair of a state and an ascending tuple of things for each member."""
    if not isinstance(thing, tuple) or len(thing) != 2 or not is_whole(thing[0], 0, circle.states):
        return False
    lots = thing[1]
    if not isinstance(lots, tuple) or len(lots) != circle.members:
        return False
    return all([are_ascending(circle.book, lot) for lot in lots])


def start_of(circle):
    """The world behind the empty run."""
    return 0, tuple([ascending(things) for things in circle.firsts])


def opens(circle, world, deed):
    """Whether a deed is open in a world."""
    _, owner, need, moves = deed
    state, lots = world
    if moves[state] is None:
        return False
    return need is None or Hoard(circle.book, lots[owner]).can_have(need)


def is_open(circle, world, name):
    """Whether the deed with a name is open in a world; raises NoDeed."""
    return opens(circle, world, circle.deed(name))


def shown_by(circle, world, name):
    """The show that is seen if a deed is done in a world, None if nothing is; raises NoDeed."""
    deed = circle.deed(name)
    return deed[3][world[0]][1] if opens(circle, world, deed) else None


def behind(circle, world, name):
    """The world behind the deed with a name; raises NoDeed."""
    deed = circle.deed(name)
    if not opens(circle, world, deed):
        return world
    state, lots = world
    follow, show = deed[3][state]
    if show is None:
        return follow, lots
    thing, members = show
    return follow, tuple([ascending((*lot, thing)) if at in members else lot for at, lot in enumerate(lots)])


def lot_row(circle, world, group):
    """The row of the things of the lots of a group's members, ascending, each once."""
    return Row(circle.book, ascending([thing for member in group for thing in world[1][member]]))


def worlds_of(circle, most=200):
    """The ascending tuple of the reached worlds; raises TooMany."""
    chart = Chart(circle, most)
    return tuple([chart.stage.world_at(told) for told in sorted(chart.worlds)])


def first_run_to(circle, world, most=200):
    """The first run behind which it is a certain world, None if there is none; raises TooMany."""
    chart = Chart(circle, most)
    place = chart.places.get(chart.stage.told_world(world))
    return None if place is None else chart.runs[place]
