"""Stages: circles whose things are told by their texts, so that worlds can be keys and are ordered as they should."""

from circlekeep.hoards import Hoard
from circlekeep.things import text_of


class Stage:
    """What is done in a circle, its worlds and shows being told by texts.

    A told world is a pair of a state and a tuple with the ascending tuple of the texts of each lot; told worlds are
    ordered as the worlds are. A told show is a pair of a text and the members. Whoever has told a stage of a thing
    can have it told back.
    """

    def __init__(self, circle):
        self.circle = circle
        self.by_text = {}
        self.hoards = {}
        self.start = (0, tuple([self.told_lot(things) for things in circle.firsts]))
        self.moves = {entry[0]: [self.told_move(move) for move in entry[3]] for entry in circle.deeds}

    def told_thing(self, thing):
        """The text of a thing."""
        text = text_of(thing)
        self.by_text[text] = thing
        return text

    def told_lot(self, things):
        """The ascending tuple of the texts of some things, each once."""
        texts = [self.told_thing(thing) for thing in things]
        return tuple(sorted(set(texts)))

    def told_world(self, world):
        """A world with texts."""
        return world[0], tuple([self.told_lot(things) for things in world[1]])

    def told_move(self, move):
        """A move with texts."""
        if move is None or move[1] is None:
            return move
        return move[0], (self.told_thing(move[1][0]), move[1][1])

    def things_at(self, texts):
        """The things with some texts."""
        return tuple([self.by_text[text] for text in texts])

    def world_at(self, told):
        """The world that is told."""
        return told[0], tuple([self.things_at(lot) for lot in told[1]])

    def hoard_at(self, lot):
        """All that can be had of the things of a told lot."""
        if lot not in self.hoards:
            self.hoards[lot] = Hoard(self.circle.book, self.things_at(lot))
        return self.hoards[lot]

    def step(self, told, name):
        """The told world behind a deed and what it shows, None if the deed is not open."""
        state, lots = told
        move = self.moves[name][state]
        if move is None:
            return None
        owner, need = self.circle.by_name[name][1:3]
        if need is not None and not self.hoard_at(lots[owner]).can_have(need):
            return None
        follow, show = move
        return (follow, grown_lots(lots, show)), show


def grown_lots(lots, show):
    """Told lots behind a told show."""
    if show is None:
        return lots
    text, members = show
    return tuple([tuple(sorted(set([*lot, text]))) if member in members else lot for member, lot in enumerate(lots)])


def pooled(told, group):
    """The told lot of all things that the members of a group have seen in a told world."""
    return tuple(sorted({text for member in group for text in told[1][member]}))
