"""Pictures: how a row looks to whoever has it."""

from circlekeep.errors import NotHad
from circlekeep.having import closed_paper, hoard_of


def boxes_of(row):
    """The basic things of a row, by their numbers."""
    hoard = hoard_of(row)
    return hoard.things_at(hoard.boxes())


def shapes_in(hoard):
    """The shapes of all things of a hoard's ledger that can be had, by their numbers in the ledger."""
    ledger = hoard.ledger
    boxes = {number: box for box, number in enumerate(hoard.boxes())}
    shapes = {}
    for number, thing in enumerate(ledger.entries):
        if number in boxes:
            shapes[number] = boxes[number]
        elif hoard.had[number]:
            kind = ledger.heads[number]
            shapes[number] = thing if kind is None else (kind, *[shapes[part] for part in ledger.parts[number]])
    return shapes


def picture_in(hoard):
    """The picture of the things of a hoard."""
    shapes = shapes_in(hoard)
    opened = []
    for number in hoard.boxes():
        uses = [use for use in hoard.uses[number] if hoard.has_all_of(use[1])]
        opened.append(tuple([(word, shapes_at(shapes, needed), shapes[given]) for word, needed, given in uses]))
    return shapes_at(shapes, hoard.shown), tuple(opened)


def shapes_at(shapes, numbers):
    """The tuple of the shapes of the things with some numbers."""
    return tuple([shapes[number] for number in numbers])


def picture(row):
    """The picture of a row."""
    return picture_in(hoard_of(row))


def shape_of(row, thing):
    """The shape of a thing of the book; raises NotHad."""
    hoard = hoard_of(row)
    if not hoard.can_have(thing):
        raise NotHad(closed_paper(hoard))
    number = hoard.number_of(thing)
    return shapes_in(hoard)[number]
