"""Recipes: how things are made and opened, step by step."""

from circlekeep.forms import is_whole
from circlekeep.ledgers import Ledger
from circlekeep.stepping import numbers_named, values_in
from circlekeep.things import is_word


def are_numbers(value, count, below):
    """Whether any value is a tuple of count numbers of earlier steps."""
    if not isinstance(value, tuple) or len(value) != count:
        return False
    return all([is_whole(number, 0, below) for number in value])


def is_step(row, step, place):
    """Whether any value is a step that can stand at a place in a recipe for a row."""
    if not isinstance(step, tuple) or not 2 <= len(step) <= 3:
        return False
    if len(step) == 2:
        return (step[0] == "shown" and is_whole(step[1], 0, len(row))) or (step[0] == "word" and is_word(step[1]))
    if not is_word(step[1]):
        return False
    if step[0] == "make":
        return step[1] in row.book.counts and are_numbers(step[2], row.book.counts[step[1]], place)
    if step[0] == "open" and step[1] in row.book.by_word:
        return are_numbers(step[2], 1 + len(row.book.by_word[step[1]][3]), place)
    return False


def is_recipe(row, thing):
    """Whether any value is a recipe for rows over the book of a row with as many things."""
    if not isinstance(thing, tuple) or not thing:
        return False
    return all([is_step(row, step, place) for place, step in enumerate(thing)])


def value_of(row, recipe):
    """The thing to which a recipe comes at a row, None if it comes to nothing."""
    ledger = Ledger()
    number = values_in(ledger, row, recipe)[-1]
    return None if number is None else ledger.entries[number]


def written_size(recipe):
    """The written-out size of a recipe."""
    sizes = []
    for step in recipe:
        sizes.append(1 + sum([sizes[number] for number in numbers_named(step)]))
    return sizes[-1]


def step_text(step):
    """The text of a step."""
    if step[0] in ("make", "open"):
        return " ".join([step[0], step[1], *[str(number) for number in step[2]]])
    return f"{step[0]} {step[1]}"


def recipe_text(recipe):
    """The text of a recipe."""
    return ";".join([step_text(step) for step in recipe])
