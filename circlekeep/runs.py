"""Runs: deeds that are done one behind the other, and what a group sees of them."""

from circlekeep.circleforms import is_group_of
from circlekeep.errors import BadText
from circlekeep.rows import Row
from circlekeep.stages import Stage

NOTHING_DONE = "-"


def is_run(circle, thing):
    """Whether any value is a tuple of names of deeds of a circle."""
    return isinstance(thing, tuple) and all([isinstance(name, str) and name in circle.by_name for name in thing])


def is_group(circle, thing):
    """Whether any value is an ascending tuple of one or more members of a circle."""
    return is_group_of(circle.members, thing)


def walked(stage, run):
    """The told world behind a run, and the told show of each deed that was open, None where it shows nothing."""
    world = stage.start
    shows = []
    for name in run:
        step = stage.step(world, name)
        if step is not None:
            world, show = step
            shows.append(show)
    return world, shows


def sight_of(group, show):
    """A told show as a group sees it: the text, and those of the group who see it; None if nobody does."""
    if show is None:
        return None
    members = tuple([member for member in group if member in show[1]])
    return (show[0], members) if members else None


def sights_along(stage, run, group):
    """What a group sees of the shows of a run."""
    _, shows = walked(stage, run)
    sights = [sight_of(group, show) for show in shows]
    return [sight for sight in sights if sight is not None]


def after(circle, run):
    """The world behind a run."""
    stage = Stage(circle)
    world, _ = walked(stage, run)
    return stage.world_at(world)


def first_row(circle, group):
    """The row of a group behind the empty run."""
    return Row(circle.book, tuple([thing for member in group for thing in circle.firsts[member]]))


def seen(circle, run, group):
    """The row of a group behind a run."""
    stage = Stage(circle)
    sights = sights_along(stage, run, group)
    return first_row(circle, group) + Row(circle.book, stage.things_at([text for text, _ in sights]))


def first_seers(circle, group):
    """For each thing of the row of a group behind the empty run those who see it: the one who has it."""
    return [(member,) for member in group for _ in circle.firsts[member]]


def seers(circle, run, group):
    """For each thing of the row of a group behind a run the members of the group who see it there."""
    sights = sights_along(Stage(circle), run, group)
    return (*first_seers(circle, group), *[members for _, members in sights])


def run_text(run):
    """The text of a run."""
    return " ".join(run) if run else NOTHING_DONE


def read_run(circle, text):
    """The run with a text; raises BadText with the number of the first wrong word of any other value."""
    if not isinstance(text, str):
        raise BadText(0)
    if text == NOTHING_DONE:
        return ()
    names = text.split(" ")
    for number, name in enumerate(names, start=1):
        if name not in circle.by_name:
            raise BadText(number)
    return tuple(names)
