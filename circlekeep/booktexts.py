"""The texts of books, told and read line by line."""

from circlekeep.bookforms import is_kind, is_opening
from circlekeep.errors import BadText

# All numbers in a book are as small as this; what is written in another way stays a string and is refused.
NUMBERS = {"0": 0, "1": 1, "2": 2, "3": 3}


def opening_line(opening):
    """The line of an opening."""
    word, kind, given, needs = opening
    told = [str(part) for need in needs for part in need]
    return " ".join(["opening", word, kind, str(given), *told])


def book_lines(kinds, openings):
    """The lines of the text of a book."""
    ahead = [f"kind {kind} {count}" for kind, count in kinds]
    behind = [opening_line(opening) for opening in openings]
    return [*ahead, *behind]


def needs_in(parts):
    """The needs that stand one behind the other in the last parts of a line, right or not."""
    needs = []
    at = 0
    while at < len(parts):
        many = 2 if parts[at] == "part" else 3
        needs.append(tuple(parts[at:at + many]))
        at += many
    return tuple(needs)


def kind_in(parts):
    """The pair of a line that begins with kind, None if the rest of it is not as it should be."""
    pair = tuple(parts[1:])
    return pair if is_kind(pair) else None


def opening_in(parts, counts):
    """The opening of an opening's line, None if it is no such line for kinds with these numbers of parts."""
    opening = (*parts[1:4], needs_in(parts[4:]))
    return opening if parts[0] == "opening" and is_opening(opening, counts) else None


def is_behind(found, entry):
    """Whether an entry that was read ascends behind those found ahead of it."""
    return entry is not None and (not found or found[-1][0] < entry[0])


def read_book(text):
    """The kinds and the openings that any value is the text of; raises BadText with the first wrong line."""
    if not isinstance(text, str):
        raise BadText(0)
    kinds = []
    openings = []
    for number, line in enumerate(text.split("\n"), start=1):
        parts = [NUMBERS.get(word, word) for word in line.split(" ")]
        if parts[0] == "kind" and not openings:
            found, entry = kinds, kind_in(parts)
        else:
            found, entry = openings, opening_in(parts, dict(kinds))
        if not is_behind(found, entry):
            raise BadText(number)
        found.append(entry)
    return tuple(kinds), tuple(openings)
