"""Which rows are alike, and papers that show it."""

from circlekeep.errors import Mismatch
from circlekeep.forms import ascends
from circlekeep.having import hoard_of
from circlekeep.ledgers import Ledger
from circlekeep.partners import are_partners
from circlekeep.pictures import picture, picture_in
from circlekeep.recipes import is_recipe
from circlekeep.scripts import apart_by
from circlekeep.stepping import values_at, values_in
from circlekeep.things import text_of


def match_part(one, other):
    """What two rows do not match in, None if they match."""
    if one.book != other.book:
        return "book"
    return None if len(one) == len(other) else "things"


def check_match(one, other):
    """Raise Mismatch if two rows do not match."""
    part = match_part(one, other)
    if part is not None:
        raise Mismatch(part)


def is_alike(one, other):
    """Whether two rows are alike; raises Mismatch."""
    check_match(one, other)
    return picture(one) == picture(other)


def pair_texts(pair):
    """The texts of the things of a pair."""
    return text_of(pair[0]), text_of(pair[1])


def even_pairs(left, right):
    """The ascending tuple of the pairs of boxes of two hoards, None if their things do not look alike."""
    if picture_in(left) != picture_in(right):
        return None
    pairs = list(zip(left.things_at(left.boxes()), right.things_at(right.boxes())))
    return tuple(sorted(pairs, key=pair_texts))


def compare(one, other):
    """A paper that two rows are alike, or that they are unlike; raises Mismatch."""
    check_match(one, other)
    left = hoard_of(one)
    right = hoard_of(other)
    pairs = even_pairs(left, right)
    if pairs is not None:
        return "alike", pairs
    paper = apart_by(one, other, left)
    return apart_by(one, other, right) if paper is None else paper


def is_pair(book, thing):
    """Whether any value is a pair of things of a book."""
    return isinstance(thing, tuple) and len(thing) == 2 and book.is_thing(thing[0]) and book.is_thing(thing[1])


def are_pairs(book, thing):
    """Whether any value is an ascending tuple of pairs of things of a book."""
    if not isinstance(thing, tuple) or not all([is_pair(book, pair) for pair in thing]):
        return False
    return ascends([pair_texts(pair) for pair in thing])


def comes_at_one(one, other, recipe):
    """Whether a recipe comes to something at just one of two rows."""
    return (values_at(one, recipe)[-1] is None) != (values_at(other, recipe)[-1] is None)


def ends_at(row, recipe, further):
    """The numbers of what two recipes come to at a row, None where one comes to nothing."""
    ledger = Ledger()
    return values_in(ledger, row, recipe)[-1], values_in(ledger, row, further)[-1]


def same_at_one(one, other, recipe, further):
    """Whether two recipes come to something at two rows, and to one and the same thing at just one of them."""
    here = ends_at(one, recipe, further)
    there = ends_at(other, recipe, further)
    if None in here or None in there:
        return False
    return (here[0] == here[1]) != (there[0] == there[1])


def compare_holds(one, other, thing):
    """Whether any value is a paper that two rows are alike, or that they are unlike."""
    if match_part(one, other) is not None or not isinstance(thing, tuple) or not 2 <= len(thing) <= 3:
        return False
    if thing[0] == "alike" and len(thing) == 2:
        return are_pairs(one.book, thing[1]) and are_partners(one, other, thing[1])
    if not all([is_recipe(one, recipe) for recipe in thing[1:]]):
        return False
    if thing[0] == "comes" and len(thing) == 2:
        return comes_at_one(one, other, thing[1])
    return thing[0] == "same" and len(thing) == 3 and same_at_one(one, other, thing[1], thing[2])
