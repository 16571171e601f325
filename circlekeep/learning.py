"""Learning: whether a group ever knows that the state is among some states."""

from circlekeep.forms import is_within
from circlekeep.mates import matched
from circlekeep.meetings import Meeting
from circlekeep.runs import is_run
from circlekeep.tables import Table
from circlekeep.tellchecks import covered_holds, states_behind


def first_learning(circle, group, states, most=200):
    """The first run behind which a group knows that the state is among some states, or None; raises TooMany."""
    chart, follower, first = matched(circle, circle, group, most)
    return Meeting(chart, follower, states).first_run(first)


def judge_learning(circle, group, states, most=200):
    """A paper that a group never knows that the state is among some states, or that it learns it; raises TooMany."""
    chart, follower, first = matched(circle, circle, group, most)
    table = Table(chart, follower, states)
    run = table.explore(first)
    return ("never", table.told_cells()) if run is None else ("learns", run)


def is_in_doubt(mates, states):
    """Whether one of some mates is in none of some states."""
    return any([world[0] not in states for world, _ in mates])


def never_holds(circle, group, states, value):
    """Whether any value has the cells that show that a group never knows that the state is among some states."""
    return covered_holds(circle, circle, group, value) and all([is_in_doubt(mates, states) for _, mates in value])


def learns_holds(circle, group, states, value):
    """Whether any value is a run behind which a group knows that the state is among some states."""
    return is_run(circle, value) and is_within(states_behind(circle, circle, group, value), states)


def learning_holds(circle, group, states, thing):
    """Whether any value is a paper that a group never knows that the state is among some states, or that it does."""
    if not isinstance(thing, tuple) or len(thing) != 2:
        return False
    if thing[0] == "never":
        return never_holds(circle, group, states, thing[1])
    return thing[0] == "learns" and learns_holds(circle, group, states, thing[1])
