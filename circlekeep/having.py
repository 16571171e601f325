"""What can be had of a row, and papers that show it."""

from circlekeep.errors import Mismatch, NotHad
from circlekeep.forms import ascends
from circlekeep.hoards import Hoard
from circlekeep.leasts import least_ways, steps_of
from circlekeep.ledgers import Ledger, made_flags, uses_at
from circlekeep.recipes import is_recipe
from circlekeep.stepping import pruned, values_in
from circlekeep.things import text_of


def hoard_of(row):
    """The hoard of the things of a row."""
    return Hoard(row.book, row.things)


def got_things(row):
    """The got things of a row, in order."""
    hoard = hoard_of(row)
    return hoard.things_at(hoard.got)


def basis(row):
    """The ascending tuple of the basic things of a row."""
    hoard = hoard_of(row)
    return tuple(sorted(hoard.things_at(hoard.boxes()), key=text_of))


def is_had(row, thing):
    """Whether any value can be had of a row."""
    return row.book.is_thing(thing) and hoard_of(row).can_have(thing)


def closed_paper(hoard):
    """The paper that shows of all that cannot be had of a hoard that it cannot."""
    return "closed", tuple(sorted(hoard.things_at(hoard.got), key=text_of))


def least_recipe(hoard, thing):
    """A least recipe that comes to a thing that can be had."""
    number = hoard.number_of(thing)
    steps, places = steps_of(least_ways(hoard))
    return pruned(steps, places[number])


def judge(row, thing):
    """A paper that shows that a thing can be had, or that it cannot."""
    hoard = hoard_of(row)
    if hoard.can_have(thing):
        return "had", least_recipe(hoard, thing)
    return closed_paper(hoard)


def recipe_for(row, thing):
    """A recipe with the least written-out size that comes to a thing; raises NotHad."""
    hoard = hoard_of(row)
    if not hoard.can_have(thing):
        raise NotHad(closed_paper(hoard))
    return least_recipe(hoard, thing)


def least_size(row, thing):
    """The least written-out size of a recipe that comes to a thing; raises NotHad."""
    hoard = hoard_of(row)
    if not hoard.can_have(thing):
        raise NotHad(closed_paper(hoard))
    number = hoard.number_of(thing)
    return least_ways(hoard)[number][0]


def are_ascending(book, things):
    """Whether any value is an ascending tuple of things of a book."""
    if not isinstance(things, tuple) or not all([book.is_thing(thing) for thing in things]):
        return False
    return ascends([text_of(thing) for thing in things])


def is_closed(row, about, things):
    """Whether an ascending tuple of things shows that a thing cannot be had of a row."""
    ledger = Ledger()
    closed = [ledger.number_of(thing) for thing in things]
    shown = [ledger.number_of(thing) for thing in row.things]
    target = ledger.number_of(about)
    uses = [use for number in closed for use in uses_at(row.book, ledger, number)]
    made = made_flags(ledger, closed)
    if made[target] or not all([made[number] for number in shown]):
        return False
    return all([made[given] for _, needed, given in uses if all([made[number] for number in needed])])


def judge_holds(row, about, thing):
    """Whether any value is a paper that shows of a thing that it can, or cannot, be had of a row."""
    if not isinstance(thing, tuple) or len(thing) != 2:
        return False
    if thing[0] == "had" and is_recipe(row, thing[1]):
        ledger = Ledger()
        return values_in(ledger, row, thing[1])[-1] == ledger.number_of(about)
    return thing[0] == "closed" and are_ascending(row.book, thing[1]) and is_closed(row, about, thing[1])


def has_all(row, other):
    """Whether everything that can be had of another row can be had of a row; raises Mismatch."""
    if row.book != other.book:
        raise Mismatch("book")
    # What is shown there is enough: all else is made and opened from it by the same steps here.
    hoard = hoard_of(row)
    return all([hoard.can_have(thing) for thing in other.things])
