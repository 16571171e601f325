"""Telling: whether a group ever tells one circle from another one."""

from circlekeep.mates import matched
from circlekeep.meetings import Meeting
from circlekeep.tables import Table


def judged(one, other, group, most):
    """A run of the first circle that has no mates, None if there is none, and the table; raises as matched does."""
    chart, follower, first = matched(one, other, group, most)
    table = Table(chart, follower, ())
    return table.explore(first), table


def first_telling(one, other, group, most=200):
    """The first run of the first circle that has no mates, None if there is none; raises Mismatch, then TooMany."""
    chart, follower, first = matched(one, other, group, most)
    return Meeting(chart, follower, ()).first_run(first)


def is_covered(one, other, group, most=200):
    """Whether the first circle is covered by the second one for a group; raises Mismatch, then TooMany."""
    run, _ = judged(one, other, group, most)
    return run is None


def judge_telling(one, other, group, most=200):
    """A paper that the first circle is covered by the second one, or that it is not; raises Mismatch, then TooMany."""
    run, table = judged(one, other, group, most)
    return ("covered", table.told_cells()) if run is None else ("tells", run)


def are_alike_for(one, other, group, most=200):
    """Whether two circles are alike for a group; raises Mismatch, then TooMany."""
    return is_covered(one, other, group, most) and is_covered(other, one, group, most)
