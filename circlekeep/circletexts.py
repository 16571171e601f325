"""The texts of circles, told and read line by line."""

from circlekeep.books import Book
from circlekeep.booktexts import book_lines
from circlekeep.circleforms import MOST_MEMBERS, is_group_of
from circlekeep.errors import BadText
from circlekeep.things import is_word, text_of

MOST_STATES = 99


def show_words(show):
    """The words of a line of a move that tell of its show."""
    if show is None:
        return []
    return [text_of(show[0]), ",".join([str(member) for member in show[1]])]


def deed_lines(deed):
    """The lines of a deed."""
    name, owner, need, moves = deed
    needs = [] if need is None else [text_of(need)]
    lines = [" ".join(["deed", name, str(owner), *needs])]
    for state, move in enumerate(moves):
        if move is not None:
            lines.append(" ".join(["move", str(state), str(move[0]), *show_words(move[1])]))
    return lines


def circle_lines(book, members, states, deeds, firsts):
    """The lines of the text of a circle."""
    first = [f"first {member} {text_of(thing)}" for member, things in enumerate(firsts) for thing in things]
    done = [line for deed in deeds for line in deed_lines(deed)]
    return [*book_lines(book.kinds, book.openings), f"members {members}", f"states {states}", *first, *done]


def number_in(text, high):
    """The number below high that a text of at most two digits tells, None if it tells none."""
    if len(text) > 2 or not text.isascii() or not text.isdigit():
        return None
    number = int(text)
    return number if str(number) == text and number < high else None


def group_in(text, members):
    """The group of so many members that a text with commas tells, None if it tells none."""
    group = tuple([number_in(part, members) for part in text.split(",")])
    return group if is_group_of(members, group) else None


class Draft:
    """What the lines behind those of the members and the states have told so far."""

    def __init__(self, book, members, states):
        self.book = book
        self.members = members
        self.states = states
        self.firsts = []
        self.deeds = []
        self.moves = []

    def takes(self, words):
        """Whether a line of these words can stand here; then it is noted."""
        if words[0] == "first":
            return len(words) == 3 and not self.deeds and self.takes_first(words)
        if words[0] == "deed":
            return 3 <= len(words) <= 4 and self.takes_deed(words)
        return words[0] == "move" and len(words) in (3, 5) and bool(self.deeds) and self.takes_move(words)

    def takes_first(self, words):
        """Whether a line of a first thing can stand here; then it is noted."""
        member = number_in(words[1], self.members)
        thing = self.book.thing_in(words[2])
        if member is None or thing is None or (self.firsts and member < self.firsts[-1][0]):
            return False
        self.firsts.append((member, thing))
        return True

    def takes_deed(self, words):
        """Whether the line of a deed can stand here; then it is noted."""
        name = words[1]
        owner = number_in(words[2], self.members)
        needs = [self.book.thing_in(word) for word in words[3:]]
        if not is_word(name) or owner is None or None in needs or (self.deeds and name <= self.deeds[-1][0]):
            return False
        self.deeds.append((name, owner, needs[0] if needs else None))
        self.moves.append({})
        return True

    def takes_move(self, words):
        """Whether the line of a move can stand here; then it is noted."""
        state = number_in(words[1], self.states)
        follow = number_in(words[2], self.states)
        moves = self.moves[-1]
        if state is None or follow is None or any([known >= state for known in moves]):
            return False
        show = None
        if len(words) == 5:
            show = (self.book.thing_in(words[3]), group_in(words[4], self.members))
            if None in show:
                return False
        moves[state] = (follow, show)
        return True

    def all_deeds(self):
        """The deeds that were told."""
        states = list(range(self.states))
        pairs = list(zip(self.deeds, self.moves))
        return tuple([(*deed, tuple([moves.get(state) for state in states])) for deed, moves in pairs])

    def all_firsts(self):
        """The firsts that were told."""
        members = list(range(self.members))
        return tuple([tuple([thing for owner, thing in self.firsts if owner == member]) for member in members])


def book_length(lines):
    """How many lines of the text of a circle are those of its book."""
    heads = [line.split(" ")[0] for line in lines]
    return heads.index("members") if "members" in heads else len(lines)


def head_number(lines, place, word, most):
    """The number from 1 on in the line at a place, which has a word and this number; raises BadText."""
    words = lines[place].split(" ") if place < len(lines) else []
    number = number_in(words[1], most + 1) if len(words) == 2 and words[0] == word else None
    if number is None or number == 0:
        raise BadText(place + 1)
    return number


def read_circle(text):
    """The parts of the circle that any value is the text of; raises BadText with the first wrong line."""
    if not isinstance(text, str):
        raise BadText(0)
    lines = text.split("\n")
    place = book_length(lines)
    book = Book.read("\n".join(lines[:place]))
    members = head_number(lines, place, "members", MOST_MEMBERS)
    states = head_number(lines, place + 1, "states", MOST_STATES)
    draft = Draft(book, members, states)
    for number in range(place + 2, len(lines)):
        if not draft.takes(lines[number].split(" ")):
            raise BadText(number + 1)
    return book, members, states, draft.all_deeds(), draft.all_firsts()
