"""The errors that the program raises, each bearing what it was made with."""


class CircleError(Exception):
    """The base class of all errors of the program."""


class BadBook(CircleError):
    """Something is no book; the part tells where."""

    def __init__(self, part):
        self.part = part


class BadThing(CircleError):
    """A value is no thing of the book, or no text of one."""

    def __init__(self, thing):
        self.thing = thing


class BadRow(CircleError):
    """Something is no row; the part tells where."""

    def __init__(self, part):
        self.part = part


class BadText(CircleError):
    """A text is wrong at a line (of the text of a run: at a word)."""

    def __init__(self, line):
        self.line = line


class NotHad(CircleError):
    """A thing cannot be had, as the paper shows."""

    def __init__(self, paper):
        self.paper = paper


class Mismatch(CircleError):
    """Two objects do not match; the part tells where."""

    def __init__(self, part):
        self.part = part


class BadCircle(CircleError):
    """Something is no circle; the part tells where."""

    def __init__(self, part):
        self.part = part


class NoDeed(CircleError):
    """A value is no name of a deed of the circle."""

    def __init__(self, name):
        self.name = name


class Kept(CircleError):
    """A thing is kept, as the paper shows."""

    def __init__(self, paper):
        self.paper = paper


class TooMany(CircleError):
    """A circle has more reached worlds than were allowed."""

    def __init__(self, most):
        self.most = most


class NothingToUndo(CircleError):
    """No deed is there to be taken back."""


class NothingToRedo(CircleError):
    """No deed that was taken back is there to be put again."""


class NoCircle(CircleError):
    """The console has no desk yet."""


class InvalidCommand(CircleError):
    """The console does not know such a command."""
