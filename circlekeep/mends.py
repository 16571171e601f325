"""Mends: which shows must be left out, or which deeds must need something, so that a thing is kept."""

from circlekeep.charts import Chart
from circlekeep.circles import Circle
from circlekeep.forms import choices_of, is_within
from circlekeep.stages import Stage, pooled


def places_of(circle):
    """The ascending tuple of the places of shows: pairs of a deed's name and a state."""
    return tuple([(name, state) for name, _, _, moves in circle.deeds for state, move in enumerate(moves)
                  if move is not None and move[1] is not None])


def with_deeds(circle, deeds):
    """The circle with other deeds."""
    return Circle(circle.book, circle.members, circle.states, tuple(deeds), circle.firsts)


def muted_moves(deed, places):
    """The moves of a deed without the shows at some places."""
    return tuple([(move[0], None) if (deed[0], state) in places else move for state, move in enumerate(deed[3])])


def without_shows(circle, places):
    """The circle without the shows at some places."""
    return with_deeds(circle, [(*deed[:3], muted_moves(deed, places)) for deed in circle.deeds])


def with_needs(circle, names, thing):
    """The circle in which the deeds with some names, which needed nothing, need a thing."""
    return with_deeds(circle, [(*deed[:2], thing, deed[3]) if deed[0] in names else deed for deed in circle.deeds])


def stage_with(circle, hoards):
    """The stage of a circle, what can be had of some lots being known."""
    stage = Stage(circle)
    stage.hoards = hoards
    return stage


def is_kept(stage, group, thing):
    """Whether the circle of a stage keeps a thing from a group, however many worlds it has."""
    known = {stage.start: True}
    waiting = [stage.start]
    while waiting:
        world = waiting.pop()
        if stage.hoard_at(pooled(world, group)).can_have(thing):
            return False
        steps = [stage.step(world, name) for name in stage.circle.names]
        fresh = [step[0] for step in steps if step is not None and step[0] not in known]
        known.update({follow: True for follow in fresh})
        waiting.extend(fresh)
    return True


def least_mends(circle, items, mend, group, thing, most):
    """The ascending tuple of the least tuples of items that make the circle keep a thing from a group.

    Mend gives the circle that is mended by some of the items; the more there are, the less anybody has in it. Raises
    TooMany.
    """
    # What can be had of a lot stays the same, and the same lots come up again and again.
    hoards = Chart(circle, most).stage.hoards
    if not is_kept(stage_with(mend(items), hoards), group, thing):
        return ()
    least = []
    for chosen in choices_of(items):
        needed = not any([is_within(other, chosen) for other in least])
        if needed and is_kept(stage_with(mend(chosen), hoards), group, thing):
            least.append(chosen)
    return tuple(sorted(least))


def least_left_out(circle, group, thing, most=200):
    """The ascending tuple of the least tuples of places without whose shows a thing is kept; raises TooMany."""
    return least_mends(circle, places_of(circle), lambda places: without_shows(circle, places), group, thing, most)


def least_needs(circle, group, thing, need, most=200):
    """The ascending tuple of the least tuples of names of deeds by whose new needs a thing is kept; raises TooMany."""
    free = tuple([deed[0] for deed in circle.deeds if deed[2] is None])
    return least_mends(circle, free, lambda names: with_needs(circle, names, need), group, thing, most)
