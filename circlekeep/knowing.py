"""Knowing: what a group can know of the state behind a run, and what it knows that others know."""

from circlekeep.followers import first_core
from circlekeep.forms import is_within
from circlekeep.mates import follower_for, matched
from circlekeep.outlooks import Outlook
from circlekeep.runs import sights_along


def possible_states(circle, group, run, most=200):
    """The ascending tuple of the states that a group holds possible behind a run; raises TooMany."""
    chart, follower, first = matched(circle, circle, group, most)
    return follower.states_of(follower.mates_along(first, sights_along(chart.stage, run, group)))


def knows(circle, group, run, states, most=200):
    """Whether a group knows behind a run that the state is among some states; raises TooMany."""
    return is_within(possible_states(circle, group, run, most), states)


def knows_that(circle, group, further, run, states, most=200):
    """Whether a group knows behind a run that a further one knows that the state is among states; raises TooMany."""
    chart, outer, first = matched(circle, circle, group, most)
    inner = follower_for(chart.stage, chart.stage, further)
    mates = inner.mates_at_first(first_core(circle, circle, further, inner.cores))
    outlook = Outlook(outer, inner)
    views = outlook.first_views(first, mates)
    for sight in sights_along(chart.stage, run, group):
        views = outlook.moved(views, sight)
    return is_within(inner.states_of(outlook.inner_mates(views)), states)
