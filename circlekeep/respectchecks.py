"""Checking papers that a policy is respected, or that it is not."""

from circlekeep.byways import Byways, is_plain
from circlekeep.forms import ascends, is_whole, is_within
from circlekeep.likeness import compare_holds
from circlekeep.policies import tell_alike
from circlekeep.readers import WorldReader
from circlekeep.runs import is_run, seen
from circlekeep.stages import Stage


def are_others(members, member, value):
    """Whether any value is an ascending tuple, perhaps empty, of so many members without one of them."""
    if not isinstance(value, tuple) or not all([is_whole(other, 0, members) for other in value]):
        return False
    return ascends(value) and member not in value


def told_worlds(reader, value):
    """Ascending worlds with texts, None for any other value."""
    if not isinstance(value, tuple):
        return None
    worlds = [reader.told(world) for world in value]
    return None if None in worlds or not ascends(worlds) else worlds


def told_cell(reader, cores, value):
    """A cell with texts for things, None for any other value."""
    members = reader.stage.circle.members
    if not isinstance(value, tuple) or len(value) != 5 or not is_whole(value[0], 0, members):
        return None
    member, one, other, core, heard = value
    told = (member, reader.told(one), reader.told(other), cores.told_core(core), heard)
    return told if None not in told and are_others(members, member, heard) else None


def told_cells(reader, cores, value):
    """Ascending cells with texts, None for any other value."""
    if not isinstance(value, tuple):
        return None
    cells = [told_cell(reader, cores, cell) for cell in value]
    return None if None in cells or not ascends(cells) else cells


def is_there(byway, there):
    """Whether a byway is fine, and among those that there are if it is needed; None is one that is not fine."""
    return byway is not None and (is_plain(byway) or byway in there)


def are_begun(byways, places, there):
    """Whether for the worlds with some numbers all beginnings are fine, and there are the byways that they need."""
    for place in places:
        for member, splits in enumerate(byways.splits):
            if not all([is_there(byways.begun(member, place, split), there) for split in splits]):
                return False
    return True


def are_followed(byways, there):
    """Whether behind each byway that there is all is fine, and there are the byways that are needed."""
    for byway in there:
        for name in byways.stage.circle.names:
            if not byways.hears(byway, name) and not is_there(byways.followed(byway, name), there):
                return False
    return True


def respected_holds(circle, policy, worlds, cells):
    """Whether two values are the worlds and the cells that show that a policy is respected."""
    byways = Byways(Stage(circle), policy)
    reader = WorldReader(byways.stage)
    reached = told_worlds(reader, worlds)
    told = told_cells(reader, byways.cores, cells)
    if reached is None or told is None:
        return False
    places = {byways.number_of(world): True for world in reached}
    ends = [byways.end(place, name)[0] for place in places for name in circle.names]
    if byways.number_of(byways.stage.start) not in places or not is_within(ends, places):
        return False
    there = {(member, byways.number_of(one), byways.number_of(other), core, heard): True
             for member, one, other, core, heard in told}
    return are_begun(byways, places, there) and are_followed(byways, there)


def shown_holds(circle, policy, parts):
    """Whether four values show that a policy is not respected: a member, two runs, and why they look unlike."""
    member, run, other, paper = parts
    if not is_whole(member, 0, circle.members) or not is_run(circle, run) or not is_run(circle, other):
        return False
    if not tell_alike(circle, policy, run, other, member):
        return False
    one = seen(circle, run, (member,))
    two = seen(circle, other, (member,))
    if paper is None:
        return len(one) != len(two)
    return compare_holds(one, two, paper) and paper[0] != "alike"


def policy_holds(circle, policy, thing):
    """Whether any value is a paper that a policy is respected, or that it is not."""
    if not isinstance(thing, tuple) or not thing:
        return False
    if thing[0] == "respected" and len(thing) == 3:
        return respected_holds(circle, policy, thing[1], thing[2])
    return thing[0] == "shown" and len(thing) == 5 and shown_holds(circle, policy, thing[1:])
