"""Following the steps of recipes, their values being numbers of a ledger."""

from circlekeep.ledgers import Ledger, needed_numbers


def opened(ledger, opening, named):
    """The number of what an opening gives, None if it fails; named are the thing and what is handed in."""
    if ledger.heads[named[0]] != opening[1]:
        return None
    if needed_numbers(ledger, opening, named[0]) != tuple(named[1:]):
        return None
    return ledger.parts[named[0]][opening[2]]


def step_value(book, ledger, shown, values, step):
    """The number of what a step comes to, None if it fails; shown and values are what it can name."""
    if step[0] == "shown":
        return shown[step[1]]
    if step[0] == "word":
        return ledger.leaf(step[1])
    named = [values[place] for place in step[2]]
    if None in named:
        return None
    if step[0] == "make":
        return ledger.whole(step[1], tuple(named))
    return opened(ledger, book.by_word[step[1]], named)


def values_in(ledger, row, steps):
    """The numbers of what steps come to at a row, None for those that fail."""
    shown = [ledger.number_of(thing) for thing in row.things]
    values = []
    for step in steps:
        values.append(step_value(row.book, ledger, shown, values, step))
    return values


def values_at(row, steps):
    """The numbers of what steps come to at a row, None for those that fail, in a ledger of their own."""
    return values_in(Ledger(), row, steps)


def numbers_named(step):
    """The numbers of the earlier steps that a step names."""
    return step[2] if step[0] in ("make", "open") else ()


def pruned(steps, last):
    """The recipe that comes to what the step with a number comes to, without the steps that it does not need."""
    wanted = {last: True}
    for place in reversed(range(last + 1)):
        if place in wanted:
            for named in numbers_named(steps[place]):
                wanted[named] = True
    places = {}
    recipe = []
    for place in range(last + 1):
        if place in wanted:
            places[place] = len(recipe)
            step = steps[place]
            if step[0] in ("make", "open"):
                step = (step[0], step[1], tuple([places[named] for named in step[2]]))
            recipe.append(step)
    return tuple(recipe)
