"""Things: words, names, and tuples of a kind and its parts."""

LONGEST = 8


def is_word(thing):
    """Whether any value is a word."""
    if not isinstance(thing, str) or not 1 <= len(thing) <= LONGEST:
        return False
    return thing.isascii() and thing.isalpha() and thing.islower()


def is_name(thing):
    """Whether any value is a name."""
    if not isinstance(thing, str) or not 1 <= len(thing) <= LONGEST:
        return False
    return thing.isascii() and thing.isalnum() and thing[0].isupper() and thing[1:] == thing[1:].lower()


def walk(thing):
    """The pieces of a thing, each as often as it stands in it, a whole right behind its last part."""
    # No recursion, here and wherever things are built: things can be hundreds deep.
    found = []
    waiting = [thing]
    while waiting:
        piece = waiting.pop()
        found.append(piece)
        if isinstance(piece, tuple):
            waiting.extend(piece[1:])
    return found[::-1]


def texts_of(pieces):
    """The texts of the pieces of a thing, which are in the order of walk."""
    told = []
    built = []
    for piece in pieces:
        if isinstance(piece, str):
            text = piece
            built.append(text)
        else:
            many = len(piece) - 1
            inner = ",".join(built[-many:])
            text = f"{piece[0]}({inner})"
            built = [*built[:-many], text]
        told.append(text)
    return told


def text_of(thing):
    """The text of a thing."""
    return texts_of(walk(thing))[-1]


def pieces_among(things):
    """The ascending tuple of the pieces of some things, each once."""
    texts = []
    pieces = []
    for thing in things:
        walked = walk(thing)
        pieces.extend(walked)
        texts.extend(texts_of(walked))
    by_text = dict(zip(texts, pieces))
    return tuple([by_text[text] for text in sorted(list(by_text))])


def pieces_of(thing):
    """The ascending tuple of the pieces of a thing, each once."""
    return pieces_among((thing,))


def size_of(thing):
    """How many pieces a thing has, each counted as often as it stands in it."""
    return len(walk(thing))


def names_in(thing):
    """The ascending tuple of the names that are pieces of a thing."""
    return tuple([piece for piece in pieces_of(thing) if is_name(piece)])


def swapped(thing, table):
    """A thing with other things in the place of the names in a table, everywhere at once."""
    built = []
    for piece in walk(thing):
        if isinstance(piece, str):
            built.append(table.get(piece, piece))
        else:
            many = len(piece) - 1
            whole = (piece[0], *built[-many:])
            built = [*built[:-many], whole]
    return built[0]


def replaced(thing, name, other):
    """A thing with another one in the place of a name, everywhere."""
    return swapped(thing, {name: other})


def ascending(things):
    """The ascending tuple of some things, each once."""
    by_text = {text_of(thing): thing for thing in things}
    return tuple([by_text[text] for text in sorted(list(by_text))])
