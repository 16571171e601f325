"""Telling: whether a group ever tells one circle from another one."""

from circlekeep.charts import Chart
from circlekeep.followers import first_core
from circlekeep.mates import check_circles, follower_for
from circlekeep.tables import Table


def judged(one, other, group, most, hasty):
    """The first run of the first circle that has no mates, or any one, or None; and the table.

    Raises Mismatch, then TooMany.
    """
    check_circles(one, other)
    chart = Chart(one, most)
    follower = follower_for(chart.stage, Chart(other, most).stage, group)
    table = Table(chart, follower, hasty)
    return table.explore(first_core(one, other, group, follower.cores)), table


def first_telling(one, other, group, most=200):
    """The first run of the first circle that has no mates, None if there is none; raises Mismatch, then TooMany."""
    run, _ = judged(one, other, group, most, False)
    return run


def is_covered(one, other, group, most=200):
    """Whether the first circle is covered by the second one for a group; raises Mismatch, then TooMany."""
    run, _ = judged(one, other, group, most, True)
    return run is None


def judge_telling(one, other, group, most=200):
    """A paper that the first circle is covered by the second one, or that it is not; raises Mismatch, then TooMany."""
    run, table = judged(one, other, group, most, True)
    return ("covered", table.told_cells()) if run is None else ("tells", run)


def are_alike_for(one, other, group, most=200):
    """Whether two circles are alike for a group; raises Mismatch, then TooMany."""
    return is_covered(one, other, group, most) and is_covered(other, one, group, most)
