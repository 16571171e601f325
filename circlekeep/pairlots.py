"""Pair lots: pairs of things that stand at the same places of two rows, and what can still come of them."""

from circlekeep.hoards import Hoard
from circlekeep.likeness import are_pairs, check_match, even_pairs, pair_texts


def is_pair_lot(book, thing):
    """Whether any value is a pair lot over a book."""
    return are_pairs(book, thing)


def lot_of(pairs):
    """The pair lot that has some pairs."""
    by_texts = {pair_texts(pair): pair for pair in pairs}
    return tuple([by_texts[texts] for texts in sorted(list(by_texts))])


def pair_lot(one, other):
    """The pair lot of the things with the same index of two rows; raises Mismatch."""
    check_match(one, other)
    return lot_of(list(zip(one.things, other.things)))


def is_even(book, pairs):
    """Whether the left things of a pair lot look like the right ones."""
    return core_of(book, pairs) is not None


def core_of(book, pairs):
    """The core of a pair lot, None if it is not even."""
    left = Hoard(book, [pair[0] for pair in pairs])
    right = Hoard(book, [pair[1] for pair in pairs])
    return even_pairs(left, right)


def joined(book, core, thing, other):
    """The core of a core with one pair more, None if that is not even."""
    # The pair makes no difference if it stands there, as the core of a core is itself.
    return core_of(book, lot_of([*core, (thing, other)]))
