"""Books: the kinds of things that there are, and the openings that give parts of them."""

from circlekeep.bookforms import are_kinds, are_openings
from circlekeep.booktexts import book_lines, read_book
from circlekeep.errors import BadBook, BadThing
from circlekeep.things import is_name, is_word, text_of

STANDARD_KINDS = (("half", 1), ("lock", 2), ("mark", 1), ("pair", 2), ("seal", 2), ("sign", 2))
STANDARD_OPENINGS = (
    ("first", "pair", 0, ()),
    ("open", "lock", 0, (("part", 1),)),
    ("second", "pair", 1, ()),
    ("shown", "sign", 0, ()),
    ("signed", "sign", 0, (("around", "half", 1),)),
    ("unseal", "seal", 0, (("inside", 1, "half"),)),
)


class Book:
    """The kinds and openings of some things."""

    def __init__(self, kinds, openings):
        if not are_kinds(kinds):
            raise BadBook("kinds")
        if not are_openings(openings, kinds):
            raise BadBook("openings")
        self.kinds = kinds
        self.openings = openings
        self.counts = dict(kinds)
        self.by_word = {opening[0]: opening for opening in openings}
        self.ways = {kind: tuple([way for way in openings if way[1] == kind]) for kind, count in kinds}

    def __eq__(self, other):
        return isinstance(other, Book) and self.kinds == other.kinds and self.openings == other.openings

    def __str__(self):
        return "\n".join(book_lines(self.kinds, self.openings))

    def is_built(self, thing):
        """Whether a tuple begins with a kind and has as many parts as this kind; its parts are not looked at."""
        return len(thing) > 1 and isinstance(thing[0], str) and self.counts.get(thing[0]) == len(thing) - 1

    def is_thing(self, thing):
        """Whether any value is a thing of the book."""
        waiting = [thing]
        while waiting:
            piece = waiting.pop()
            if isinstance(piece, tuple):
                if not self.is_built(piece):
                    return False
                waiting.extend(piece[1:])
            elif not is_word(piece) and not is_name(piece):
                return False
        return True

    def thing_in(self, text):
        """The thing with a text, None for any other value."""
        if not isinstance(text, str):
            return None
        thing = put_together(text)
        return thing if self.is_thing(thing) and text_of(thing) == text else None

    def read_thing(self, text):
        """The thing with a text; raises BadThing for any other value."""
        thing = self.thing_in(text)
        if thing is None:
            raise BadThing(text)
        return thing

    def needed(self, opening, thing):
        """What an opening needs at a thing of its kind, None if an inside finds nothing."""
        needs = self.by_word[opening][3]
        found = [needed_thing(need, thing) for need in needs]
        return None if None in found else tuple(found)

    @classmethod
    def read(cls, text):
        """The book with a text; raises BadText with the first wrong line of any other value."""
        kinds, openings = read_book(text)
        return cls(kinds, openings)


def put_together(text):
    """What the brackets of a text form at first, or None; it is right only if it is a thing with this text."""
    levels = [[]]
    word = ""
    for sign in f"{text},":
        if sign == "(":
            levels.append([word])
            word = ""
        elif sign in ",)":
            if word:
                levels[-1].append(word)
                word = ""
            if sign == ")":
                if len(levels) == 1:
                    return None
                whole = tuple(levels.pop())
                levels[-1].append(whole)
        else:
            word += sign
    return levels[0][0] if levels[0] else None


def needed_thing(need, thing):
    """What a need asks for at a thing, None if it is an inside that finds nothing."""
    if need[0] == "part":
        return thing[need[1] + 1]
    if need[0] == "around":
        return need[1], thing[need[2] + 1]
    part = thing[need[1] + 1]
    if isinstance(part, tuple) and part[0] == need[2]:
        return part[1]
    return None


def standard_book():
    """The standard book: halves, locks, marks, pairs, seals and signs."""
    return Book(STANDARD_KINDS, STANDARD_OPENINGS)
