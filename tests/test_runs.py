"""[16] [17]: runs, what groups see of them, and their texts."""

import unittest

from circlekeep.circles import Circle
from circlekeep.errors import BadText
from circlekeep.rows import Row
from circlekeep.runs import after, is_group, is_run, read_run, run_text, seen, seers
from helper import ROOM, STD, all_groups, any_values, random_circle, same_rng, slow_run, variants

LOCK = ("lock", "s", "K")
TRIO = Circle(STD, 3, 2, (
    ("ask", 0, None, ((1, ("A", (0, 1))), (0, ("B", (2,))))),
    ("bid", 1, "A", ((0, ("C", (0, 1, 2))), None)),
    ("cut", 2, None, ((1, None), (0, None)))), (("K", "L", "K"), (), (LOCK, "K")))


class RunTest(unittest.TestCase):

    def test_is_run(self):
        for value in any_values():
            self.assertIs(is_run(ROOM, value), isinstance(value, tuple) and value == (), value)
        for value in ((), ("post",), ("post", "hand", "post"), ("hand",) * 5000):
            self.assertIs(is_run(ROOM, value), True)
        for value in (["post"], "post", ("posts",), ("post", None), ("post", ("hand",)), ("post", ""), ("post", ["hand"]),
                      ("Post",), (0,), ("post", {}), ("post", ROOM), {"post": 1}, "", [], {}):
            self.assertIs(is_run(ROOM, value), False)
        for value in variants(("post", "hand")):
            wanted = isinstance(value, tuple) and all(part in ("post", "hand") for part in value)
            self.assertIs(is_run(circle=ROOM, thing=value), wanted)

    def test_is_group(self):
        for value in any_values():
            wanted = isinstance(value, tuple) and value in ((0,), (1,), (2,), (0, 1), (0, 2), (1, 2), (0, 1, 2))
            self.assertIs(is_group(TRIO, value), wanted, value)
        for value in ((0,), (2,), (0, 1), (0, 2), (1, 2), (0, 1, 2)):
            self.assertIs(is_group(circle=TRIO, thing=value), True)
        for value in ((), (3,), (0, 3), (-1, 0), (1, 0), (0, 0), (True,), (False, 1), (0, True), [0], 0, "0", ("0",), (0, None),
                      ((0,),), (0, (1,)), {0: 1}):
            self.assertIs(is_group(TRIO, value), False, value)
        self.assertIs(is_group(ROOM, (2,)), False)

    def test_after(self):
        lock = ("lock", "s", "K")
        self.assertEqual(after(ROOM, ("post", "hand")), (1, (("K", lock), ("K", lock))))
        self.assertEqual(after(circle=ROOM, run=()), (0, (("K",), ())))
        # Tried again, hand is not open.
        self.assertEqual(after(ROOM, ("hand", "hand")), (1, (("K",), ("K",))))
        self.assertEqual(after(TRIO, ("bid", "cut", "bid")), (1, (("K", "L"), (), ("K", LOCK))))

    def test_seen(self):
        self.assertEqual(seen(ROOM, ("post", "hand"), (1,)), Row(STD, (("lock", "s", "K"), "K")))
        self.assertEqual(seen(ROOM, ("post", "hand"), (0,)), Row(STD, ("K", ("lock", "s", "K"))))
        self.assertEqual(seen(circle=ROOM, run=("post", "post"), group=(0, 1)).things,
                         ("K", ("lock", "s", "K"), ("lock", "s", "K")))
        run = ("bid", "ask", "bid", "ask", "bid", "bid", "cut", "ask")
        for group, things, told in (
                ((0,), ("K", "L", "K", "A", "C", "C"), ((0,),) * 6),
                ((1,), ("A", "C", "C"), ((1,),) * 3),
                ((2,), (LOCK, "K", "B", "C", "C", "B"), ((2,),) * 6),
                ((0, 1), ("K", "L", "K", "A", "C", "C"), ((0,), (0,), (0,), (0, 1), (0, 1), (0, 1))),
                ((1, 2), (LOCK, "K", "A", "B", "C", "C", "B"), ((2,), (2,), (1,), (2,), (1, 2), (1, 2), (2,))),
                ((0, 1, 2), ("K", "L", "K", LOCK, "K", "A", "B", "C", "C", "B"),
                 ((0,), (0,), (0,), (2,), (2,), (0, 1), (2,), (0, 1, 2), (0, 1, 2), (2,)))):
            self.assertEqual(seen(TRIO, run, group), Row(STD, things))
            self.assertEqual(seers(circle=TRIO, run=run, group=group), told)

    def test_random_ones(self):
        rng = same_rng(91)
        for _ in range(200):
            made = random_circle(rng, members=4, deeds=4)
            run = tuple(rng.choice(made.names) for _ in range(rng.randint(0, 12))) if made.names else ()
            for group in all_groups(made):
                world, things, told = slow_run(made, run, group)
                self.assertEqual(after(made, run), world)
                self.assertEqual(seen(made, run, group), Row(STD, things))
                self.assertEqual(seers(made, run, group), told)


class TextTest(unittest.TestCase):

    def test_texts(self):
        for run, text in (((), "-"), (("post",), "post"), (("post", "hand", "post"), "post hand post")):
            self.assertEqual(run_text(run=run), text)
            self.assertEqual(read_run(circle=ROOM, text=text), run)

    def check_wrong(self, text, number):
        with self.assertRaises(BadText, msg=text) as told:
            read_run(ROOM, text)
        self.assertEqual(told.exception.line, number, text)

    def test_any_value(self):
        for value in any_values():
            self.check_wrong(value, 1 if isinstance(value, str) else 0)
        for value in (("post",), ["post"], None, 0, (), ROOM):
            self.check_wrong(value, 0)

    def test_first_wrong_word(self):
        for text, number in (("", 1), (" ", 1), (" post", 1), ("post ", 2), ("post  hand", 2), ("post hand  post", 3), ("- post", 1),
                             ("post -", 2), ("--", 1), (" -", 1), ("- ", 1), ("post\nhand", 1), ("post hands", 2), ("Post", 1),
                             ("post hand\n", 2), ("post posts hands", 2), ("post,hand", 1), ("post hand -", 3)):
            self.check_wrong(text, number)


if __name__ == "__main__":
    unittest.main()
