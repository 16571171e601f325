"""Keeping: whether a group ever comes to have a thing."""

from circlekeep.charts import Chart
from circlekeep.errors import Kept
from circlekeep.forms import choices_of, is_within
from circlekeep.having import closed_paper, hoard_of, least_recipe
from circlekeep.runs import seen
from circlekeep.stages import pooled


def pooled_hoard(chart, place, group):
    """All that a group can have in the reached world at a place."""
    return chart.stage.hoard_at(pooled(chart.worlds[place], group))


def first_place(chart, group, thing):
    """The place of the first reached world in which a group can have a thing, None if there is none."""
    for place in range(len(chart.worlds)):
        if pooled_hoard(chart, place, group).can_have(thing):
            return place
    return None


def kept_paper(chart, group):
    """The paper that shows of all that a group never has that it does not."""
    cells = []
    for told in sorted(chart.worlds):
        _, closed = closed_paper(pooled_hoard(chart, chart.places[told], group))
        cells.append((chart.stage.world_at(told), closed))
    return "kept", tuple(cells)


def keeps(circle, group, thing, most=200):
    """Whether a circle keeps a thing from a group; raises TooMany."""
    return first_place(Chart(circle, most), group, thing) is None


def judge_keeping(circle, group, thing, most=200):
    """A paper that shows that a circle keeps a thing from a group, or that it does not; raises TooMany."""
    chart = Chart(circle, most)
    place = first_place(chart, group, thing)
    if place is None:
        return kept_paper(chart, group)
    run = chart.runs[place]
    return "had", run, least_recipe(hoard_of(seen(circle, run, group)), thing)


def first_run(circle, group, thing, most=200):
    """The first run behind which a group can have a thing; raises TooMany, and Kept."""
    chart = Chart(circle, most)
    place = first_place(chart, group, thing)
    if place is None:
        raise Kept(kept_paper(chart, group))
    return chart.runs[place]


def first_opening(circle, name, most=200):
    """The first run behind which a deed is open, None if there is none; raises TooMany, and NoDeed behind it."""
    chart = Chart(circle, most)
    named = circle.deed(name)[0]
    for place, steps in enumerate(chart.onward):
        if named in [step[0] for step in steps]:
            return chart.runs[place]
    return None


def holders(circle, thing, most=200):
    """The ascending tuple of the least groups that ever have a thing; raises TooMany."""
    chart = Chart(circle, most)
    least = []
    for group in choices_of(list(range(circle.members)))[1:]:
        if not any([is_within(other, group) for other in least]) and first_place(chart, group, thing) is not None:
            least.append(group)
    return tuple(sorted(least))
