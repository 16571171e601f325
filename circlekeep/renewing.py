"""Renewing: names that are exchanged for other ones behind a deed."""

from circlekeep.circles import Circle
from circlekeep.things import replaced


def renewed_move(move, shift, name, other):
    """A move that leads to a state that is greater by a shift and shows another name in the place of one."""
    if move is None:
        return None
    follow, show = move
    if show is not None:
        show = (replaced(show[0], name, other), show[1])
    return follow + shift, show


def renewed_moves(moves, names, renews):
    """The moves of a deed for the lots of states of all names; renews if it leads from each lot into the next one."""
    many = len(moves)
    found = []
    for lot, other in enumerate(names):
        target = lot + 1 if renews and lot + 1 < len(names) else lot
        found.extend([renewed_move(move, many * target, names[0], other) for move in moves])
    return tuple(found)


def renewed(circle, name, deed, others):
    """The circle in which a name is renewed behind the deed with a name by some others; raises NoDeed."""
    behind = circle.deed(deed)[0]
    names = (name, *others)
    deeds = tuple([(*entry[:3], renewed_moves(entry[3], names, entry[0] == behind)) for entry in circle.deeds])
    return Circle(circle.book, circle.members, circle.states * len(names), deeds, circle.firsts)
