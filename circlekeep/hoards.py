"""Hoards: all that can be had of some things."""

from circlekeep.ledgers import Ledger, uses_at
from circlekeep.things import is_word


class Hoard:
    """What is got and what can be had of some things of a book, told by the numbers of a ledger.

    Of each thing of the ledger, had tells whether it can be had; uses has the openings that can come at the
    pieces of the things, whether what they need can be had or not.
    """

    def __init__(self, book, things):
        self.ledger = Ledger()
        self.shown = [self.ledger.number_of(thing) for thing in things]
        many = len(self.ledger)
        self.uses = [uses_at(book, self.ledger, number) for number in range(many)]
        self.had = [False] * len(self.ledger)
        self.wholes = wholes_of(self.ledger)
        self.got = {}
        for number, thing in enumerate(self.ledger.entries):
            if is_word(thing):
                self.mark(number)
        for number in self.shown:
            self.gain(number)
        self.collect()

    def mark(self, number):
        """Note that a thing can be had, and all that is made of it and of what could be had before."""
        waiting = [number]
        while waiting:
            current = waiting.pop()
            if not self.had[current]:
                self.had[current] = True
                waiting.extend([whole for whole in self.wholes[current] if self.is_made(whole)])

    def is_made(self, number):
        """Whether the thing with a number has parts all of which can be had."""
        parts = self.ledger.parts[number]
        return bool(parts) and all([self.had[part] for part in parts])

    def gain(self, number):
        """Note that a thing is got; got has the numbers in the order in which they were got first."""
        self.got[number] = True
        self.mark(number)

    def collect(self):
        """Get all that openings give, each time by the first one that gives something new."""
        waiting = [use for number in self.got for use in self.uses[number]]
        use = self.ready_use(waiting)
        while use is not None:
            given = use[2]
            self.gain(given)
            # What gives nothing new will never give anything new, so only the others are looked at again.
            waiting = [*[other for other in waiting if other[2] not in self.got], *self.uses[given]]
            use = self.ready_use(waiting)

    def ready_use(self, waiting):
        """The first of some uses that gives something new, None if there is none."""
        for use in waiting:
            if use[2] not in self.got and self.has_all_of(use[1]):
                return use
        return None

    def has_all_of(self, numbers):
        """Whether all things with some numbers can be had."""
        return all([self.had[number] for number in numbers])

    def number_of(self, thing):
        """The number of any thing of the book; had then tells of it, too."""
        number = self.ledger.number_of(thing)
        known = len(self.had)
        for fresh in range(known, len(self.ledger)):
            self.had.append(is_word(self.ledger.entries[fresh]) or self.is_made(fresh))
        return number

    def can_have(self, thing):
        """Whether a thing of the book can be had."""
        return self.had[self.number_of(thing)]

    def is_basic(self, number):
        """Whether a got thing is a name, or has a part that cannot be had."""
        return not self.is_made(number) and not is_word(self.ledger.entries[number])

    def boxes(self):
        """The numbers of the basic things, in the order in which they are got."""
        return [number for number in self.got if self.is_basic(number)]

    def things_at(self, numbers):
        """The things with some numbers."""
        return tuple([self.ledger.entries[number] for number in numbers])


def wholes_of(ledger):
    """For each number of a ledger the numbers of the things that it is a part of."""
    wholes = [[] for _ in ledger.entries]
    for number, parts in enumerate(ledger.parts):
        for part in parts:
            wholes[part].append(number)
    return wholes
