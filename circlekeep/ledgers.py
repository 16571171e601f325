"""Ledgers: numbers for things, so that things of any size are compared and kept as integers."""

from circlekeep.things import is_word, walk


class Ledger:
    """Numbers for things: equal things have equal numbers, and a part has a lesser one than the whole."""

    def __init__(self):
        self.numbers = {}
        self.entries = []
        self.heads = []
        self.parts = []

    def __len__(self):
        return len(self.entries)

    def entered(self, key, thing, kind, parts):
        """The number of a thing, a new one if it has none yet."""
        number = self.numbers.setdefault(key, len(self.entries))
        if number == len(self.entries):
            self.entries.append(thing)
            self.heads.append(kind)
            self.parts.append(parts)
        return number

    def leaf(self, text):
        """The number of a word or a name."""
        return self.entered(text, text, None, ())

    def whole(self, kind, parts):
        """The number of the thing of a kind whose parts have these numbers."""
        # The thing shares its parts with others, so it costs nothing however large it is.
        return self.entered((kind, *parts), (kind, *[self.entries[part] for part in parts]), kind, parts)

    def number_of(self, thing):
        """The number of a thing."""
        found = []
        for piece in walk(thing):
            if isinstance(piece, str):
                found.append(self.leaf(piece))
            else:
                many = len(piece) - 1
                number = self.whole(piece[0], tuple(found[-many:]))
                found = [*found[:-many], number]
        return found[0]


def needed_numbers(ledger, opening, whole):
    """The numbers of what an opening needs at the thing with a number, None if an inside finds nothing."""
    parts = ledger.parts[whole]
    found = []
    for need in opening[3]:
        if need[0] == "part":
            found.append(parts[need[1]])
        elif need[0] == "around":
            found.append(ledger.whole(need[1], (parts[need[2]],)))
        elif ledger.heads[parts[need[1]]] == need[2]:
            found.append(ledger.parts[parts[need[1]]][0])
        else:
            return None
    return tuple(found)


def uses_at(book, ledger, whole):
    """What can come at the thing with a number: of each opening its word, what it needs, what it gives."""
    uses = []
    for opening in book.ways.get(ledger.heads[whole], ()):
        needed = needed_numbers(ledger, opening, whole)
        if needed is not None:
            uses.append((opening[0], needed, ledger.parts[whole][opening[2]]))
    return uses


def made_flags(ledger, numbers):
    """For each number of the ledger whether its thing is made of the things with some numbers."""
    chosen = {number: True for number in numbers}
    flags = []
    for number, thing in enumerate(ledger.entries):
        parts = ledger.parts[number]
        made = bool(parts) and all([flags[part] for part in parts])
        flags.append(made or number in chosen or is_word(thing))
    return flags
