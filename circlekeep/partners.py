"""Partners: what the pairs of a paper make of each thing of the one row at the other one."""

from circlekeep.ledgers import Ledger, needed_numbers, uses_at
from circlekeep.things import is_name, is_word


def partners_of(ledger, ahead, behind):
    """For each number of a ledger that of its thing's partner, or None; pairs are of numbers ahead and behind."""
    paired = dict(zip(ahead, behind))
    partners = []
    # Partners can be new things; nobody asks for the partners of these.
    many = len(ledger)
    for number in range(many):
        parts = [partners[part] for part in ledger.parts[number]]
        partner = None
        if number in paired:
            partner = paired[number]
        elif is_word(ledger.entries[number]):
            partner = number
        elif parts and None not in parts:
            partner = ledger.whole(ledger.heads[number], tuple(parts))
        partners.append(partner)
    return partners


def opens_alike(ledger, opening, one, other, partners):
    """Whether an opening, if it can come at the one thing of a pair, does likewise at the other one."""
    needed = needed_numbers(ledger, opening, one)
    wanted = [None] if needed is None else [partners[number] for number in needed]
    if None in wanted:
        return True
    if ledger.heads[other] != opening[1] or needed_numbers(ledger, opening, other) != tuple(wanted):
        return False
    return partners[ledger.parts[one][opening[2]]] == ledger.parts[other][opening[2]]


def answers(book, ledger, one, other, partners):
    """Whether the other thing of a pair is as the one thing and its partners ask for."""
    kind = ledger.heads[one]
    if kind is None:
        return one == other or is_name(ledger.entries[one])
    parts = [partners[part] for part in ledger.parts[one]]
    if None not in parts and other != ledger.whole(kind, tuple(parts)):
        return False
    return all([opens_alike(ledger, opening, one, other, partners) for opening in book.ways[kind]])


def are_partners(one, other, pairs):
    """Whether an ascending tuple of pairs of things shows that two rows that match are alike."""
    book = one.book
    ledger = Ledger()
    left = [ledger.number_of(pair[0]) for pair in pairs]
    right = [ledger.number_of(pair[1]) for pair in pairs]
    if len(set(left)) < len(left) or len(set(right)) < len(right):
        return False
    firsts = [ledger.number_of(thing) for thing in one.things]
    seconds = [ledger.number_of(thing) for thing in other.things]
    for number in [*left, *right]:
        # What is needed must have its number before the partners are told.
        uses_at(book, ledger, number)
    onward = partners_of(ledger, left, right)
    back = partners_of(ledger, right, left)
    if [onward[number] for number in firsts] != seconds:
        return False
    mirrored = [answers(book, ledger, ahead, behind, onward) for ahead, behind in zip(left, right)]
    return all(mirrored) and all([answers(book, ledger, behind, ahead, back) for ahead, behind in zip(left, right)])
