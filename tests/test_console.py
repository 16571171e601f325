"""[33]: commands and answers of the console."""

import unittest

from circlekeep.circles import Circle
from circlekeep.console import Console
from circlekeep.errors import InvalidCommand, Kept, NoCircle, NothingToRedo, NothingToUndo, TooMany
from circlekeep.keeping import first_run, keeps
from circlekeep.knowing import knows
from circlekeep.runs import after, run_text, seen
from circlekeep.things import text_of
from circlekeep.worlds import is_open
from helper import POOL, ROOM, STD, TWO, all_groups, any_values, random_circle, same_rng, slow_had, slow_reached, slow_run

TEXT = str(ROOM).replace("\n", ";")
LINE = Circle(STD, 2, 6, (("ask", 0, None, tuple([(at, ("K", (0,))) for at in range(6)])),
                          ("go", 0, None, tuple([((at + 1) % 6, (f"L{at}", (1,))) for at in range(6)]))), ((), ()))

# One command of each form but circle.
COMMANDS = ("do post", "undo", "redo", "state", "row 1", "has 1 K", "keeps 1 K", "knows 1 0", "first 1 K")


def begun(circle=ROOM):
    """A console with a desk of a circle."""
    console = Console()
    assert console.say("circle " + str(circle).replace("\n", ";")) == "ok"
    return console


class ConsoleTest(unittest.TestCase):

    def say(self, console, *pairs):
        for command, answer in pairs:
            self.assertEqual(console.say(command), answer, command)

    def refuses(self, console, command, error=InvalidCommand):
        with self.assertRaises(error) as told:
            console.say(command)
        self.assertIs(type(told.exception), error, command)
        self.assertEqual(vars(told.exception), {} if error is not TooMany else {"most": 200})

    def test_each_command(self):
        console = Console()
        self.assertEqual(console.say(command="circle " + TEXT), "ok")
        self.say(console, ("state", "0"), ("row 0", "K"), ("row 1", "none"), ("row 0,1", "K"), ("has 0 K", "yes"), ("has 1 K", "no"),
                 ("has 1 pair(a,b)", "yes"), ("has 1 lock(s,K)", "no"), ("keeps 1 K", "no"), ("keeps 1 L", "yes"), ("keeps 1 s", "no"),
                 ("knows 1 0", "yes"), ("knows 1 1", "no"), ("knows 1 0,1", "yes"), ("first 1 K", "hand"), ("first 0 K", "-"),
                 ("first 1 L", "never"), ("first 1 pair(lock(s,K),lock(t,K))", "hand"), ("do post", "done"), ("row 1", "lock(s,K)"),
                 ("row 0,1", "K lock(s,K)"), ("do hand", "done"), ("do hand", "nothing"), ("state", "1"), ("has 1 s", "yes"),
                 ("knows 1 1", "yes"), ("knows 1 0", "no"), ("undo", "ok"), ("undo", "ok"), ("state", "0"), ("knows 1 0", "no"),
                 ("redo", "ok"), ("state", "1"), ("redo", "ok"), ("row 1", "lock(s,K) K"))
        circle = Circle(STD, 2, 2, (*ROOM.deeds, ("show", 1, "K", ((0, (("lock", "S", "M"), (0,))),) * 2)), (("K",), ()))
        self.say(begun(circle), ("do show", "nothing"), ("first 0 lock(S,M)", "hand show"), ("do hand", "done"), ("do show", "done"),
                 ("first 0,1 S", "never"), ("keeps 0,1 M", "yes"), ("row 0,1", "K K lock(S,M)"))

    def test_strings_of_no_form(self):
        console = Console()
        for command in ("", " ", "  ", "\n", "stat", "State", "STATE", "state ", " state", "state 1", "undo 1", "redo redo", "do", "do post hand",
                        "do  post", " do post", "do post ", "do\npost", "do post\n", "\ndo post", "row", "row 0 1", "row  1", "has 1", "has", "has 1 K K",
                        "has  1 K", "keeps 1", "keeps", "keeps 1 K L", "knows 1", "knows 1 0 1", "first 1", "first", "first 1 K K", "circle",
                        "circle ", " circle " + TEXT, "circle  " + TEXT, "circle " + TEXT + " ", "circle " + TEXT.replace(";", "\n"),
                        "circle " + TEXT + "\n", "Circle " + TEXT, TEXT, "circle" + TEXT, "state\n", "row 0, 1", "none", "yes", "circle;" + TEXT,
                        "do ", "row ", "has 1 ", "has  K", "knows  0", "first 1 ", " undo", " state", "has  ", "circle  ", "circle x ",
                        "circle " + TEXT.replace(" ", "  ", 1)):
            self.refuses(console, command)
            self.refuses(begun(), command)

    def test_any_value(self):
        console = begun()
        console.say("do post")
        for value in (*any_values(), b"state", ["state"], ("state",), {"state": 1}, Console(), console):
            if isinstance(value, str) and value == "row 0":
                # The text of a row without things is a command, too.
                self.refuses(Console(), value, NoCircle)
            else:
                self.refuses(console, value)
                self.refuses(Console(), value)
        self.say(console, ("state", "0"), ("row 1", "lock(s,K)"))

    def test_no_circle(self):
        console = Console()
        for command in (*COMMANDS, "do x", "do POST", "do 1", "row x", "row 1,0", "row -", "has x y", "has 7 %", "keeps , ,", "knows ! ?", "first - -"):
            self.refuses(console, command, NoCircle)
        for text in ("x", "circle", "kind half 1", TEXT.replace("members 2", "members 9"), "circle " + TEXT, TEXT + ";", ";"):
            self.refuses(console, "circle " + text)
            for command in COMMANDS:
                self.refuses(console, command, NoCircle)
        self.say(console, ("circle " + TEXT, "ok"), ("do post", "done"))

    def test_words_that_tell_nothing_of_the_circle(self):
        console = begun()
        console.say("do post")
        words = ("2", "1,0", "0,0", "0,", ",0", ",", "0,2", "01", "+1", "-1", "1.0", "0;1", "0,1,2", "x", "K", "0_1", "1,", "one", "None", "()",
                 "12345678901234567890", "\u0661")
        for group in words:
            for command in ("row {}", "has {} K", "keeps {} K", "knows {} 0", "first {} K", "knows 1 {}"):
                self.refuses(console, command.format(group))
        for thing in ("k1", "Lock(s,K)", "lock(s)", "lock(s,K", "lock(s,K))", "(s,K)", "lock(s,,K)", "tin(s)", "K-", "abcdefghi", "1", "K,L", "half()", "()"):
            for command in ("has 1 {}", "keeps 1 {}", "first 1 {}"):
                self.refuses(console, command.format(thing))
        for name in ("hands", "POST", "post,hand", "-", "1", "post;", "undo"):
            self.refuses(console, f"do {name}")
        # Nothing is changed by what is refused.
        self.say(console, ("row 1", "lock(s,K)"), ("undo", "ok"), ("redo", "ok"), ("state", "0"))

    def test_what_the_desk_raises(self):
        console = begun()
        self.refuses(console, "undo", NothingToUndo)
        self.refuses(console, "redo", NothingToRedo)
        self.say(console, ("do hand", "done"))
        self.refuses(console, "redo", NothingToRedo)
        self.say(console, ("undo", "ok"))
        self.refuses(console, "undo", NothingToUndo)
        self.say(console, ("redo", "ok"), ("undo", "ok"), ("do post", "done"))
        self.refuses(console, "redo", NothingToRedo)
        self.say(console, ("row 1", "lock(s,K)"))

    def test_too_many(self):
        # The circle has 6 states, and 1 sees another name in each: there are more than 200 worlds if 2 sees them, too.
        moves = tuple([((at + 1) % 99, ("K", (0,)) if at % 2 else None) for at in range(99)])
        deeds = (("ask", 0, None, tuple([(at, ("L", (1,))) for at in range(99)])), ("bid", 0, None, tuple([(at, ("M", (1,))) for at in range(99)])),
                 ("go", 0, None, moves))
        many = Circle(STD, 2, 99, deeds, ((), ()))
        self.assertGreater(len(slow_reached(many)), 200)
        console = begun(many)
        self.say(console, ("do go", "done"), ("state", "1"))
        for command in ("keeps 0 K", "keeps 0 Z", "first 0 K", "first 0 Z", "knows 0 1", "knows 0,1 0,98"):
            self.refuses(console, command, TooMany)
        for command in ("keeps 2 K", "keeps 0 1", "first 0,0 K", "first 0 half", "knows 0 99", "knows 0 1,1"):
            self.refuses(console, command.replace("half", "half("), InvalidCommand)
        self.say(console, ("has 0 K", "no"), ("do go", "done"), ("has 0 K", "yes"), ("row 0", "K"), ("state", "2"), ("undo", "ok"))

    def test_a_text_that_is_none_leaves_the_old_desk(self):
        console = begun()
        self.say(console, ("do post", "done"), ("do hand", "done"), ("undo", "ok"))
        for text in ("x", TEXT + ";", ";" + TEXT, TEXT.replace("states 2", "states 0"), TEXT.replace(";", ";;", 1), str(STD).replace("\n", ";"),
                     TEXT.replace("lock", "luck", 1)):
            self.refuses(console, "circle " + text)
            self.say(console, ("row 1", "lock(s,K)"), ("redo", "ok"), ("state", "1"), ("undo", "ok"))

    def test_a_new_circle_begins_anew(self):
        console = begun()
        self.say(console, ("do post", "done"), ("do hand", "done"), ("undo", "ok"), ("circle " + TEXT, "ok"), ("row 1", "none"), ("state", "0"))
        self.refuses(console, "undo", NothingToUndo)
        self.refuses(console, "redo", NothingToRedo)
        self.say(console, ("do post", "done"), ("circle " + str(TWO).replace("\n", ";"), "ok"), ("do post", "done"), ("row 1", "lock(u,K)"))

    def test_two_consoles_do_not_meet(self):
        one, other = begun(), begun()
        self.say(one, ("do post", "done"), ("do hand", "done"), ("undo", "ok"))
        self.say(other, ("state", "0"), ("row 1", "none"))
        self.refuses(other, "undo", NothingToUndo)
        self.refuses(other, "redo", NothingToRedo)
        self.say(other, ("circle " + str(TWO).replace("\n", ";"), "ok"), ("do post", "done"), ("row 1", "lock(u,K)"))
        self.say(one, ("row 1", "lock(s,K)"), ("redo", "ok"), ("state", "1"))

    def test_equal_to_no_other_value(self):
        console = Console()
        for value in (*any_values(), Console, "console", None):
            self.assertNotEqual(console, value)
            self.assertNotEqual(value, console)

    def test_as_the_functions_tell(self):
        rng = same_rng(281)
        for _ in range(60):
            circle = random_circle(rng, members=4, deeds=5)
            if len(slow_reached(circle)) > 60:
                continue
            console = begun(circle)
            run = ()
            for _ in range(3 if circle.names else 0):
                name = rng.choice(circle.names)
                opened = is_open(circle, after(circle, run), name)
                self.say(console, (f"do {name}", "done" if opened else "nothing"))
                run = (*run, name)
            self.say(console, ("state", str(after(circle, run)[0])))
            for group in all_groups(circle):
                told = ",".join(map(str, group))
                self.say(console, (f"row {told}", " ".join(map(text_of, seen(circle, run, group))) or "none"))
                for thing in rng.sample(POOL, 3):
                    text = text_of(thing)
                    had = slow_had(STD, dict.fromkeys(slow_run(circle, run, group)[1]), thing)
                    self.say(console, (f"has {told} {text}", "yes" if had else "no"))
                    self.say(console, (f"keeps {told} {text}", "yes" if keeps(circle, group, thing) else "no"))
                    try:
                        first = run_text(first_run(circle, group, thing))
                    except Kept:
                        first = "never"
                    self.say(console, (f"first {told} {text}", first))
                states = tuple(sorted(rng.sample(range(circle.states), rng.randint(1, circle.states))))
                self.say(console, (f"knows {told} {','.join(map(str, states))}", "yes" if knows(circle, group, run, states) else "no"))

    def test_many_states(self):
        # Numbers of states have two digits.
        moves = tuple([(min(at + 1, 98), None) for at in range(99)])
        console = begun(Circle(STD, 1, 99, (("go", 0, None, moves),), ((),)))
        for _ in range(12):
            console.say("do go")
        self.say(console, ("state", "12"), ("knows 0 " + ",".join(map(str, range(99))), "yes"), ("knows 0 12,98", "no"))
        self.refuses(console, "knows 0 99")
        self.refuses(console, "knows 0 100")

    def test_long_use(self):
        console = begun(LINE)
        for at in range(66):
            self.say(console, ("do go", "done"), ("do ask", "done"), ("undo", "ok"), ("state", str((at + 1) % 6)))
        self.say(console, ("has 1 L5", "yes"), ("has 0 K", "no"), ("knows 1 0", "yes"), ("knows 0 0", "no"), ("keeps 0 K", "no"), ("first 0 K", "ask"))
        for _ in range(66):
            self.say(console, ("undo", "ok"))
        self.refuses(console, "undo", NothingToUndo)


if __name__ == "__main__":
    unittest.main()
