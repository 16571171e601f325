"""Scripts: for all that can be had of a row, recipes that tell it apart from each row that is not alike."""

from circlekeep.leasts import least_ways, steps_of
from circlekeep.stepping import pruned, values_at


def plain_step(hoard, number, places):
    """The step that comes to a thing that is not basic: a word as a word, others made of their parts."""
    ledger = hoard.ledger
    if ledger.heads[number] is None:
        return "word", ledger.entries[number]
    return "make", ledger.heads[number], tuple([places[part] for part in ledger.parts[number]])


def script_of(hoard):
    """The steps and tests of a hoard's row: pairs of places of steps that come to one and the same thing there.

    Each thing has one plain way: a basic one as it is had at least cost, others out of plain ways of their
    parts. If all plain ways come at another row, too, and if there, too, whatever is shown, and whatever an
    opening gives of a basic thing, is what its plain way comes to, then so it is with all recipes.
    """
    steps, costs = steps_of(least_ways(hoard))
    boxes = hoard.boxes()
    tests = [(costs[number], costs[number]) for number in boxes]
    places = {number: costs[number] for number in boxes}
    for number in range(len(hoard.ledger)):
        if hoard.had[number] and number not in places:
            places[number] = len(steps)
            steps.append(plain_step(hoard, number, places))
    for index, number in enumerate(hoard.shown):
        tests.append((len(steps), places[number]))
        steps.append(("shown", index))
    for number in boxes:
        for word, needed, given in hoard.uses[number]:
            if hoard.has_all_of(needed):
                tests.append((len(steps), places[given]))
                steps.append(("open", word, tuple([places[part] for part in (number, *needed)])))
    return steps, tests


def apart_by(one, other, hoard):
    """A paper that two rows are unlike, by the tests of the hoard of one of them; None if these fail to show it."""
    steps, tests = script_of(hoard)
    here = values_at(one, steps)
    there = values_at(other, steps)
    for pair in tests:
        for place in pair:
            if (here[place] is None) != (there[place] is None):
                return "comes", pruned(steps, place)
        left, right = pair
        if (here[left] == here[right]) != (there[left] == there[right]):
            return "same", pruned(steps, left), pruned(steps, right)
    return None
