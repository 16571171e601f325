"""What the members, the states, the deeds and the firsts of a circle have to look like."""

from circlekeep.forms import ascends, is_whole
from circlekeep.things import is_word

MOST_MEMBERS = 4


def is_group_of(members, value):
    """Whether any value is an ascending tuple of one or more of so many members."""
    if not isinstance(value, tuple) or not value:
        return False
    return all([is_whole(member, 0, members) for member in value]) and ascends(value)


def is_count(value):
    """Whether any value is an integer from 1 on."""
    return isinstance(value, int) and not isinstance(value, bool) and value >= 1


def is_show(book, members, value):
    """Whether any value is a show of a thing of a book to some of so many members."""
    if not isinstance(value, tuple) or len(value) != 2:
        return False
    return book.is_thing(value[0]) and is_group_of(members, value[1])


def is_move(book, members, states, value):
    """Whether any value is right as a move of a deed at one of its states."""
    if value is None:
        return True
    if not isinstance(value, tuple) or len(value) != 2 or not is_whole(value[0], 0, states):
        return False
    return value[1] is None or is_show(book, members, value[1])


def is_deed(book, members, states, value):
    """Whether any value is right as a deed of a circle with so many members and states."""
    if not isinstance(value, tuple) or len(value) != 4:
        return False
    name, owner, need, moves = value
    if not is_word(name) or not is_whole(owner, 0, members):
        return False
    if need is not None and not book.is_thing(need):
        return False
    if not isinstance(moves, tuple) or len(moves) != states:
        return False
    return all([is_move(book, members, states, move) for move in moves])


def are_deeds(book, members, states, value):
    """Whether any value is right as the deeds of a circle with so many members and states."""
    if not isinstance(value, tuple) or not all([is_deed(book, members, states, deed) for deed in value]):
        return False
    return ascends([deed[0] for deed in value])


def are_things(book, value):
    """Whether any value is a tuple of things of a book."""
    return isinstance(value, tuple) and all([book.is_thing(thing) for thing in value])


def are_firsts(book, members, value):
    """Whether any value is right as what so many members have at first."""
    if not isinstance(value, tuple) or len(value) != members:
        return False
    return all([are_things(book, things) for things in value])


def wrong_part(book, members, states, deeds, firsts):
    """The first part of a circle over a book that is not as it should be, None if all are."""
    if not is_whole(members, 1, MOST_MEMBERS + 1):
        return "members"
    if not is_count(states):
        return "states"
    if not are_deeds(book, members, states, deeds):
        return "deeds"
    return None if are_firsts(book, members, firsts) else "firsts"
