"""Circles: members, their states, their deeds, and what they have at first."""

from circlekeep.circleforms import wrong_part
from circlekeep.circletexts import circle_lines, read_circle
from circlekeep.errors import BadCircle, NoDeed
from circlekeep.things import swapped


class Circle:
    """Members who do deeds, which lead from state to state and show things to some of them."""

    def __init__(self, book, members, states, deeds, firsts):
        part = wrong_part(book, members, states, deeds, firsts)
        if part is not None:
            raise BadCircle(part)
        self.book = book
        self.members = members
        self.states = states
        self.deeds = deeds
        self.firsts = firsts
        self.names = tuple([entry[0] for entry in deeds])
        self.by_name = {entry[0]: entry for entry in deeds}

    def __eq__(self, other):
        if not isinstance(other, Circle) or self.book != other.book:
            return False
        return self.told_parts() == other.told_parts()

    def __str__(self):
        return "\n".join(circle_lines(self.book, self.members, self.states, self.deeds, self.firsts))

    def told_parts(self):
        """All but the book."""
        return self.members, self.states, self.deeds, self.firsts

    def deed(self, name):
        """The deed with a name; raises NoDeed for any other value."""
        if not isinstance(name, str) or name not in self.by_name:
            raise NoDeed(name)
        return self.by_name[name]

    def renamed(self, pairs):
        """The circle with other hidden names in all things, all at once."""
        table = dict(pairs)
        deeds = tuple([renamed_deed(entry, table) for entry in self.deeds])
        firsts = tuple([tuple([swapped(thing, table) for thing in things]) for things in self.firsts])
        return Circle(self.book, self.members, self.states, deeds, firsts)

    def turned(self, order):
        """The circle with its members exchanged: order tells for each new one which one it was."""
        deeds = tuple([turned_deed(entry, order) for entry in self.deeds])
        firsts = tuple([self.firsts[member] for member in order])
        return Circle(self.book, self.members, self.states, deeds, firsts)

    @classmethod
    def read(cls, text):
        """The circle with a text; raises BadText with the first wrong line of any other value."""
        book, members, states, deeds, firsts = read_circle(text)
        return cls(book, members, states, deeds, firsts)


def shown_by_moves(moves, change):
    """Moves whose shows are changed by a function."""
    return tuple([move if move is None or move[1] is None else (move[0], change(move[1])) for move in moves])


def renamed_deed(entry, table):
    """A deed with things in the place of the names in a table."""
    name, owner, need, moves = entry
    needed = None if need is None else swapped(need, table)
    return name, owner, needed, shown_by_moves(moves, lambda show: (swapped(show[0], table), show[1]))


def turned_deed(entry, order):
    """A deed with its members exchanged."""
    name, owner, need, moves = entry
    return name, order.index(owner), need, shown_by_moves(moves, lambda show: (show[0], turned_group(show[1], order)))


def turned_group(group, order):
    """The new numbers of the members of a group."""
    return tuple(sorted([order.index(member) for member in group]))
