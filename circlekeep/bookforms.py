"""What the kinds and the openings of a book have to look like."""

from circlekeep.forms import ascends, is_whole
from circlekeep.things import is_word

MOST_PARTS = 3
MOST_NEEDS = 2


def is_kind(value):
    """Whether any value is a pair of a kind and the number of its parts."""
    if not isinstance(value, tuple) or len(value) != 2:
        return False
    return is_word(value[0]) and is_whole(value[1], 1, MOST_PARTS + 1)


def are_kinds(value):
    """Whether any value is right as the kinds of a book."""
    if not isinstance(value, tuple) or not value or not all([is_kind(pair) for pair in value]):
        return False
    return ascends([pair[0] for pair in value])


def is_single(value, counts):
    """Whether any value is a kind of one part."""
    return isinstance(value, str) and counts.get(value) == 1


def is_need(value, count, counts):
    """Whether any value is a need of an opening of a kind that has count parts."""
    if not isinstance(value, tuple) or not value:
        return False
    if value[0] == "part":
        return len(value) == 2 and is_whole(value[1], 0, count)
    if value[0] == "around":
        return len(value) == 3 and is_single(value[1], counts) and is_whole(value[2], 0, count)
    if value[0] == "inside":
        return len(value) == 3 and is_whole(value[1], 0, count) and is_single(value[2], counts)
    return False


def is_opening(value, counts):
    """Whether any value is right as an opening, the kinds having these numbers of parts."""
    if not isinstance(value, tuple) or len(value) != 4:
        return False
    word, kind, given, needs = value
    if not is_word(word) or word in counts or not is_word(kind) or kind not in counts:
        return False
    if not is_whole(given, 0, counts[kind]) or not isinstance(needs, tuple) or len(needs) > MOST_NEEDS:
        return False
    return all([is_need(need, counts[kind], counts) for need in needs])


def are_openings(value, kinds):
    """Whether any value is right as the openings of a book with these kinds."""
    counts = dict(kinds)
    if not isinstance(value, tuple) or not all([is_opening(opening, counts) for opening in value]):
        return False
    return ascends([opening[0] for opening in value])
