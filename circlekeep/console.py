"""The console: commands, and what it answers to them."""

from circlekeep.circles import Circle
from circlekeep.circletexts import group_in
from circlekeep.desk import Desk
from circlekeep.errors import BadText, InvalidCommand, Kept, NoCircle
from circlekeep.keeping import first_run, keeps
from circlekeep.runs import run_text
from circlekeep.things import text_of

# How many words the commands have, but for that of a circle.
COUNTS = {"do": 2, "undo": 1, "redo": 1, "state": 1, "row": 2, "has": 3, "keeps": 3, "knows": 3, "first": 3}


def words_of(command):
    """The words of a command; raises InvalidCommand for any value that has the form of none."""
    if not isinstance(command, str) or "\n" in command:
        raise InvalidCommand()
    words = command.split(" ")
    right = len(words) > 1 if words[0] == "circle" else COUNTS.get(words[0]) == len(words)
    if not right or "" in words:
        raise InvalidCommand()
    return words


def desk_of(words):
    """A new desk of the circle that the words of a command tell; raises InvalidCommand."""
    text = " ".join(words[1:])
    try:
        return Desk(Circle.read(text.replace(";", "\n")))
    except BadText:
        raise InvalidCommand()


def told(value):
    """What a text tells; raises InvalidCommand if it is None, as it tells nothing then."""
    if value is None:
        raise InvalidCommand()
    return value


def yes_or_no(truth):
    """The answer to whether something is so."""
    return "yes" if truth else "no"


def answer_of_step(desk, words):
    """The answer to a command that changes a desk."""
    if words[0] == "undo":
        desk.undo()
    elif words[0] == "redo":
        desk.redo()
    else:
        if words[1] not in desk.circle.by_name:
            raise InvalidCommand()
        return "done" if desk.do(words[1]) else "nothing"
    return "ok"


def answer_of_group(desk, words):
    """The answer to a command that asks something of a group."""
    circle = desk.circle
    group = told(group_in(words[1], circle.members))
    if words[0] == "row":
        texts = [text_of(thing) for thing in desk.row(group)]
        return " ".join(texts) if texts else "none"
    if words[0] == "knows":
        return yes_or_no(desk.knows(group, told(group_in(words[2], circle.states))))
    thing = told(circle.book.thing_in(words[2]))
    if words[0] == "has":
        return yes_or_no(desk.has(group, thing))
    if words[0] == "keeps":
        return yes_or_no(keeps(circle, group, thing))
    try:
        return run_text(first_run(circle, group, thing))
    except Kept:
        return "never"


class Console:
    """A desk, at first none, to which commands are said."""

    def __init__(self):
        self.desk = None

    def say(self, command):
        """The answer to a command; raises InvalidCommand, NoCircle, and what the desk raises."""
        words = words_of(command)
        if words[0] == "circle":
            self.desk = desk_of(words)
            return "ok"
        if self.desk is None:
            raise NoCircle()
        if words[0] in ("do", "undo", "redo"):
            return answer_of_step(self.desk, words)
        if words[0] == "state":
            return str(self.desk.world[0])
        return answer_of_group(self.desk, words)
