"""[17]: the texts of circles."""

import re
import unittest

from circlekeep.books import Book
from circlekeep.circles import Circle
from circlekeep.errors import BadText
from helper import ROOM, SMALL, STD, WIDE, any_values, random_circle, random_thing, same_rng, slow_text

BOOK = "kind box 1\nkind duo 2\nopening left duo 0"
TEXT = f"""{BOOK}
members 3
states 12
first 0 K
first 0 duo(a,K)
first 0 K
first 2 L
deed ask 2
move 0 11 K 0,2
move 2 2
move 10 0 box(L) 1
deed bid 0 duo(K,L)
deed cut 1
move 0 0"""
LINES = TEXT.split("\n")
NUMBER = "(0|[1-9][0-9]?)"
WORD = "[a-z]{1,8}"


def slow_wrong_line(text):
    """[17]: the number of the first wrong line of a string, None if it is the text of a circle."""
    lines = text.split("\n")
    heads = [at for at, line in enumerate(lines) if line.split(" ")[0] == "members"]
    cut = heads[0] if heads else len(lines)
    try:
        book = Book.read("\n".join(lines[:cut]))
    except BadText as told:
        return told.line
    if cut == len(lines) or not re.fullmatch("members [1-4]", lines[cut]):
        return cut + 1
    if cut + 1 == len(lines) or not re.fullmatch("states [1-9][0-9]?", lines[cut + 1]):
        return cut + 2
    members = int(lines[cut].split()[1])
    states = int(lines[cut + 1].split()[1])
    past = {"first": 0, "deed": "", "move": None}
    for at in range(cut + 2, len(lines)):
        if not slow_line(book, members, states, past, lines[at]):
            return at + 1
    return None


def slow_line(book, members, states, past, line):
    """[17]: whether a line can stand behind those that are past."""
    words = line.split(" ")
    things = []
    if found := re.fullmatch(f"first {NUMBER} (.+)", line):
        member = int(found[1])
        right = not past["deed"] and past["first"] <= member < members
        past["first"] = member
        things = words[2:]
    elif found := re.fullmatch(f"deed ({WORD}) {NUMBER}( .+)?", line):
        right = past["deed"] < found[1] and int(found[2]) < members
        past.update(deed=found[1], move=-1)
        things = words[3:]
    elif found := re.fullmatch(f"move {NUMBER} {NUMBER}( .+ ([0-3](,[0-3])*))?", line):
        state = int(found[1])
        right = past["move"] is not None and past["move"] < state < states and int(found[2]) < states
        past["move"] = state
        things = words[3:-1]
        if found[3]:
            group = [int(word) for word in found[4].split(",")]
            right = right and len(things) == 1 and group == sorted(set(group)) and group[-1] < members
    else:
        return False
    if not right or len(things) > 1:
        return False
    return all(text and book.thing_in(text) is not None for text in things)


class TextTest(unittest.TestCase):

    def test_by_hand(self):
        made = Circle.read(text=TEXT)
        none = [None] * 12
        ask = [*none]
        ask[0] = (11, ("K", (0, 2)))
        ask[2] = (2, None)
        ask[10] = (0, (("box", "L"), (1,)))
        deeds = (("ask", 2, None, tuple(ask)), ("bid", 0, ("duo", "K", "L"), tuple(none)),
                 ("cut", 1, None, ((0, None), *none[1:])))
        self.assertEqual(made, Circle(Book.read(BOOK), 3, 12, deeds, (("K", ("duo", "a", "K"), "K"), (), ("L",))))
        self.assertEqual(str(made), TEXT)
        self.assertIsNone(slow_wrong_line(TEXT))

    def test_room(self):
        self.assertEqual(str(ROOM), f"""{STD}
members 2
states 2
first 0 K
deed hand 0
move 0 1 K 1
deed post 0
move 0 0 lock(s,K) 0,1
move 1 1 lock(t,K) 0,1""")
        self.assertEqual(Circle.read(str(ROOM)), ROOM)

    def test_least_circle(self):
        made = Circle(Book((("a", 1),), ()), 1, 1, (), ((),))
        self.assertEqual(str(made), "kind a 1\nmembers 1\nstates 1")
        self.assertEqual(Circle.read(str(made)), made)

    def test_kinds_with_words_of_lines(self):
        kinds = (("deed", 1), ("first", 1), ("members", 2), ("move", 1), ("states", 1))
        made = Circle(Book(kinds, ()), 1, 1, (("members", 0, ("members", "a", "deed"), ((0, None),)),), (("members",),))
        self.assertEqual(Circle.read(str(made)), made)

    def test_great_numbers(self):
        made = Circle(SMALL, 4, 99, (("a", 3, None, (*[None] * 98, (98, ("K", (0, 1, 2, 3))))),), ((), (), (), ("K",)))
        self.assertIn("states 99", str(made))
        self.assertIn("move 98 98 K 0,1,2,3", str(made))
        self.assertEqual(Circle.read(str(made)), made)

    def test_random_ones(self):
        rng = same_rng(71)
        for _ in range(150):
            book = rng.choice((STD, SMALL, WIDE))
            pool = [random_thing(rng, book, 3) for _ in range(9)]
            made = random_circle(rng, 4, 5, 4, 3, pool, book)
            again = Circle.read(str(made))
            self.assertEqual(again, made)
            self.assertEqual(again.names, made.names)
            firsts = [f"first {at} {slow_text(thing)}" for at, things in enumerate(made.firsts) for thing in things]
            self.assertEqual([line for line in str(made).split("\n") if line.startswith("first ")], firsts)


class ReadTest(unittest.TestCase):

    def check_wrong(self, text, line):
        with self.assertRaises(BadText, msg=text) as told:
            Circle.read(text)
        self.assertEqual(told.exception.line, line, text)
        if isinstance(text, str):
            self.assertEqual(slow_wrong_line(text), line, text)

    def put(self, number, *lines):
        """The text with other lines, one or more or none, in the place of the line with a number."""
        return "\n".join([*LINES[:number - 1], *lines, *LINES[number:]])

    def test_any_value(self):
        for value in any_values():
            if not isinstance(value, str):
                self.check_wrong(value, 0)
            else:
                self.check_wrong(value, slow_wrong_line(value))
        for value in (None, ROOM, STD, (TEXT,), [TEXT], {TEXT: 1}):
            self.check_wrong(value, 0)
        self.check_wrong("", 1)

    def test_lines_of_the_book(self):
        for number, line in ((1, "kind box 4"), (1, "kind  box 1"), (1, ""), (1, "Kind box 1"), (2, "kind box 2"),
                             (2, "kind a 1"), (3, "opening duo duo 0"), (3, "opening left no 0"), (3, "opening left duo 2"),
                             (3, "states 12"), (3, "first 0 K"), (3, " members 3"), (3, "member 3"), (3, "")):
            self.check_wrong(self.put(number, line), number)
            with self.assertRaises(BadText) as told:
                Book.read("\n".join([*LINES[:number - 1], line, *LINES[number:3]]))
            self.assertEqual(told.exception.line, number)
        self.check_wrong("\n".join(LINES[3:]), 1)
        self.check_wrong("members 3", 1)
        self.check_wrong("members\nkind a 1", 1)
        self.check_wrong("members 3\n" + TEXT, 1)

    def test_members_in_a_wrong_place(self):
        self.check_wrong("kind box 1\nmembers 3\nkind duo 2\nstates 12", 3)
        self.check_wrong("kind box 1\nmembers\nmembers 3\nstates 12", 2)
        self.check_wrong("kind duo 2\nkind box 1\nmembers 3", 2)
        self.check_wrong(f"{BOOK}\nstates 12\nmembers 3", 4)
        self.check_wrong(f"{BOOK}\nfirst 0 K\nmembers 3\nstates 1", 4)
        self.check_wrong(self.put(5, "states 12", "members 3"), 6)
        self.check_wrong(self.put(6, "members 3"), 6)

    def test_missing_lines(self):
        self.check_wrong(BOOK, 4)
        self.check_wrong("kind box 1", 2)
        self.check_wrong(f"{BOOK}\n", 4)
        self.check_wrong(f"{BOOK}\nmembers 3", 5)
        self.check_wrong(f"{BOOK}\nmembers 3\n", 5)
        self.check_wrong(f"{BOOK}\nmembers 3\nfirst 0 K", 5)
        self.check_wrong(f"{BOOK}\nstates 3", 4)
        self.check_wrong(f"{BOOK}\nmembers 3\nstates 2\n", 6)
        self.assertEqual(Circle.read(f"{BOOK}\nmembers 3\nstates 2").firsts, ((), (), ()))
        self.check_wrong(TEXT + "\n", len(LINES) + 1)

    def test_line_of_members(self):
        for line in ("members", "members ", "members  3", "members 3 ", "members 0", "members 5", "members 03", "members 10",
                     "members -1", "members +3", "members 3 3", "members three", "members 100"):
            self.check_wrong(self.put(4, line), 4)

    def test_line_of_states(self):
        for line in ("states", "states ", "states  2", "states 2 ", " states 2", "states 0", "states 100", "states 02",
                     "states 00", "states -1", "states 1 1", "states x", "state 2", "States 2", ""):
            self.check_wrong(self.put(5, line), 5)

    def test_lines_of_firsts(self):
        for line in ("first", "first 0", "first 0 ", "first  0 K", "first 0  K", "first 0 K ", "first 3 K", "first 00 K",
                     "first -1 K", "first 0 K L", "first 0 tin(a)", "first 0 duo(a, K)", "first a K",
                     "first 0 1", "first 100 K", "First 0 K", "first 0 box(K", "first 0 -"):
            self.check_wrong(self.put(6, line), 6)
        self.assertEqual(Circle.read(self.put(6, "first 0 box")).firsts[0][0], "box")
        self.check_wrong(self.put(9, "first 2 L", "first 0 K"), 10)
        self.check_wrong(self.put(9, "first 2 L", "first 1 K"), 10)
        self.check_wrong(self.put(10, "deed ask 2", "first 2 K"), 11)
        self.assertEqual(Circle.read(self.put(9, "first 1 M", "first 1 L")).firsts[1:], (("M", "L"), ()))

    def test_lines_of_deeds(self):
        for line in ("deed", "deed ask", "deed ask ", "deed  ask 2", "deed ask 2 ", "deed ask 3", "deed ask 02", "deed Ask 2",
                     "deed abcdefghi 2", "deed ask 2 tin(K)", "deed ask 2 K L", "deed ask K 2", "deed ask -", "deed bid 2",
                     "deed ask 2 duo(K)", "Deed ask 2", "deed a1 2"):
            number = 10 if line != "deed bid 2" else 14
            self.check_wrong(self.put(10, line), number)
        self.check_wrong(self.put(15, "deed ask 1"), 15)
        self.check_wrong(self.put(15, "deed bid 1"), 15)
        self.check_wrong(self.put(15, "deed b 1"), 15)

    def test_lines_of_moves(self):
        for line in ("move", "move 2", "move 2 ", "move 2 2 K", "move 2 2 K ", "move  2 2", "move 2 2 ", "move 12 2",
                     "move 2 12", "move 02 2", "move 2 02", "move 0 2", "move -1 2", "move 2 2 tin(K) 1", "move 2 2 K 3",
                     "move 2 2 K 0,3", "move 2 2 K 1,0", "move 2 2 K 1,1", "move 2 2 K 0, 1", "move 2 2 K ,", "move 2 2 K 0,",
                     "move 2 2 K ,0", "move 2 2 K 00", "move 2 2 K 0,1 2", "move 2 2 - 0", "move 2 2 K -", "Move 2 2",
                     "move 100 2", "move 2 2 K K", "move 2 2  0", "move two 2", "", "moves 2 2", "states 12", "kind box 1",
                     "opening left duo 0", "move 1,2 2"):
            self.check_wrong(self.put(12, line), 12)
        self.check_wrong(self.put(12, "move 2 2", "move 2 2"), 13)
        self.check_wrong(self.put(12, "move 11 2"), 13)
        self.check_wrong(self.put(12, "move 10 2"), 13)
        self.check_wrong(self.put(10, "move 0 0"), 10)
        self.check_wrong(self.put(6, "move 0 0"), 6)

    def test_changed_texts(self):
        rng = same_rng(72)
        right = 0
        words = ("members", "states", "first", "deed", "move", "kind", "opening", "K", "a", "0", "1", "2", "3", "11", "12",
                 "02", "", "0,1", "1,2", "box(K)", "duo(K,L)", "box", "ask", "bid", "left", "-1")
        for _ in range(3000):
            lines = list(LINES)
            at = rng.randrange(len(lines))
            pick = rng.randrange(6)
            if pick == 0:
                del lines[at]
            elif pick == 1:
                lines.insert(rng.randrange(len(lines) + 1), lines[at])
            elif pick == 2:
                other = rng.randrange(len(lines))
                lines[at], lines[other] = lines[other], lines[at]
            elif pick == 3:
                del lines[at:]
            else:
                parts = lines[at].split(" ")
                place = rng.randrange(len(parts))
                parts[place:place + rng.randint(0, 1)] = [rng.choice(words)] * rng.randint(0, 2)
                lines[at] = " ".join(parts)
            text = "\n".join(lines)
            wrong = slow_wrong_line(text)
            if wrong is None:
                right += 1
                self.assertEqual(str(Circle.read(text)), text)
            else:
                self.check_wrong(text, wrong)
        self.assertGreater(right, 100)


if __name__ == "__main__":
    unittest.main()
