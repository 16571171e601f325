"""Mates: what a group could see in a second circle for what it sees in a first one."""

from circlekeep.charts import Chart
from circlekeep.cores import Cores
from circlekeep.errors import Mismatch
from circlekeep.followers import Follower, first_core
from circlekeep.runs import sights_along


def unlike_part(one, other):
    """What two circles do not match in, None if they match."""
    if one.book != other.book:
        return "book"
    return None if one.members == other.members else "members"


def check_circles(one, other):
    """Raise Mismatch if two circles do not match."""
    part = unlike_part(one, other)
    if part is not None:
        raise Mismatch(part)


def follower_for(stage, further, group):
    """What the circle of a further stage has for what a group sees in the circle of a stage."""
    return Follower(further, group, Cores([stage, further]))


def matched(one, other, group, most):
    """The chart of a first circle, the follower for it, and the told core of both empty runs, None if they are unlike.

    Raises Mismatch, then TooMany.
    """
    check_circles(one, other)
    chart = Chart(one, most)
    further = chart if one == other else Chart(other, most)
    follower = follower_for(chart.stage, further.stage, group)
    return chart, follower, first_core(one, other, group, follower.cores)


def mates_behind(one, other, group, run, most=200):
    """The ascending tuple of the mates of a run of the first circle; raises Mismatch, then TooMany."""
    chart, follower, first = matched(one, other, group, most)
    numbers = follower.mates_along(first, sights_along(chart.stage, run, group))
    return tuple([follower.mate_at(told) for told in follower.told_mates(numbers)])
