"""Rows: things of a book, one behind the other."""

from circlekeep.errors import BadRow, BadText, BadThing, Mismatch
from circlekeep.things import is_name, pieces_among, swapped, text_of


class Row:
    """A tuple of things of a book."""

    def __init__(self, book, things):
        if not isinstance(things, tuple):
            raise BadRow("things")
        for thing in things:
            if not book.is_thing(thing):
                raise BadThing(thing)
        pieces = pieces_among(things)
        self.book = book
        self.things = things
        self.names = tuple([piece for piece in pieces if is_name(piece)])
        self.pieces = pieces

    def __len__(self):
        return len(self.things)

    def __iter__(self):
        return iter(self.things)

    def __eq__(self, other):
        return isinstance(other, Row) and self.book == other.book and self.things == other.things

    def __add__(self, other):
        if self.book != other.book:
            raise Mismatch("book")
        return Row(self.book, (*self.things, *other.things))

    def __str__(self):
        return "\n".join([f"row {len(self.things)}", *[text_of(thing) for thing in self.things]])

    def with_thing(self, thing):
        """The row with one thing more; raises BadThing for any value that is none of the book."""
        return Row(self.book, (*self.things, thing))

    def only(self, places):
        """The row of the things at some places."""
        return Row(self.book, tuple([self.things[place] for place in places]))

    def replaced(self, name, thing):
        """The row with a thing in the place of a name, everywhere."""
        return Row(self.book, tuple([swapped(shown, {name: thing}) for shown in self.things]))

    @classmethod
    def read(cls, book, text):
        """The row over a book with a text; raises BadText with the first wrong line of any other value."""
        return cls(book, things_in(book, text))


def is_number_text(text):
    """Whether a text is a number as it is written for a row: from 0 on, with no zero ahead."""
    return text == "0" or (text.isascii() and text.isdigit() and text[0] != "0")


def is_below(number, many):
    """Whether a number is less than what the text of a number tells, which may be too long for an integer."""
    told = str(number)
    return (len(told), told) < (len(many), many)


def things_in(book, text):
    """The things that the text of a row has; raises BadText with the first wrong line of any other value."""
    if not isinstance(text, str):
        raise BadText(0)
    lines = text.split("\n")
    head = lines[0].split(" ")
    if len(head) != 2 or head[0] != "row" or not is_number_text(head[1]):
        raise BadText(1)
    things = []
    for line in lines[1:]:
        thing = book.thing_in(line)
        if thing is None or not is_below(len(things), head[1]):
            raise BadText(len(things) + 2)
        things.append(thing)
    if is_below(len(things), head[1]):
        raise BadText(len(lines) + 1)
    return tuple(things)
