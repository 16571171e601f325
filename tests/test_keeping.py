"""[19] [20]: whether things are kept, papers of it, first runs, who ever has a thing."""

import unittest

from circlekeep.circles import Circle
from circlekeep.errors import Kept, NoDeed, TooMany
from circlekeep.keeping import first_opening, first_run, holders, judge_keeping, keeps
from circlekeep.recipes import is_recipe
from circlekeep.rows import Row
from circlekeep.shares import dealt
from helper import (POOL, ROOM, STD, all_groups, any_values, pooled_things, random_circle, same_rng, slow_closed, slow_first,
                    slow_had, slow_lot, slow_reached, slow_run, slow_step, slow_text, slow_value, world_key)

ABOUT = (*POOL, "A", "a", "t", ("half", "L"), ("pair", "K", "K"))


class KeepingTest(unittest.TestCase):

    def check_kept(self, circle, group, thing, paper):
        """[19]: the paper that a thing is kept, read word by word."""
        self.assertEqual((paper[0], len(paper)), ("kept", 2))
        worlds = [world for world, _ in paper[1]]
        self.assertEqual(worlds, sorted(worlds, key=world_key))
        self.assertEqual(len(set(worlds)), len(worlds))
        self.assertIn(slow_run(circle, (), group)[0], worlds)
        for world, closed in paper[1]:
            for name in circle.names:
                self.assertIn(slow_step(circle, world, name)[0], worlds)
            self.assertEqual(closed, slow_lot(closed))
            self.assertTrue(slow_closed(Row(STD, pooled_things(world, group)), thing, closed))

    def check_had(self, circle, group, thing, paper):
        """[19]: the paper that a thing is not kept."""
        word, run, recipe = paper
        self.assertEqual(word, "had")
        row = Row(STD, slow_run(circle, run, group)[1])
        self.assertTrue(is_recipe(row, recipe))
        self.assertEqual(slow_value(row, recipe), thing)

    def check_all(self, circle, group, thing):
        run = slow_first(circle, group, thing)
        self.assertIs(keeps(circle, group, thing), run is None)
        paper = judge_keeping(circle, group, thing)
        if run is None:
            self.check_kept(circle, group, thing, paper)
            with self.assertRaises(Kept) as told:
                first_run(circle, group, thing)
            self.check_kept(circle, group, thing, told.exception.paper)
        else:
            self.check_had(circle, group, thing, paper)
            self.assertEqual(first_run(circle, group, thing), run)
        return run

    def test_room(self):
        self.assertEqual(self.check_all(ROOM, (1,), "K"), ("hand",))
        self.assertEqual(self.check_all(ROOM, (0,), "K"), ())
        self.assertEqual(self.check_all(ROOM, (1,), "s"), ())
        self.assertEqual(self.check_all(ROOM, (1,), ("lock", "s", "K")), ("hand",))
        self.assertEqual(self.check_all(ROOM, (1,), ("lock", "K", "K")), ("hand",))
        self.assertIsNone(self.check_all(ROOM, (0, 1), "L"))
        self.assertIs(keeps(circle=ROOM, group=(1,), thing="K", most=6), False)
        self.assertEqual(judge_keeping(circle=ROOM, group=(1,), thing="K", most=6)[:2], ("had", ("hand",)))
        self.assertEqual(first_run(circle=ROOM, group=(1,), thing="K", most=6), ("hand",))

    def test_pooled(self):
        deeds = (("ask", 0, None, ((0, (("lock", "S", "K"), (0,))),)), ("bid", 1, "L", ((0, ("K", (1,))),)))
        circle = Circle(STD, 2, 1, deeds, ((), ("L",)))
        self.assertIsNone(self.check_all(circle, (0,), "S"))
        self.assertIsNone(self.check_all(circle, (1,), "S"))
        self.assertEqual(self.check_all(circle, (0, 1), "S"), ("ask", "bid"))
        self.assertEqual(holders(circle, "S"), ((0, 1),))
        self.assertEqual(holders(circle, "L"), ((1,),))

    def test_the_owner_alone_needs(self):
        circle = Circle(STD, 2, 1, (("ask", 0, "L", ((0, ("K", (1,))),)),), ((), ("L",)))
        self.assertIsNone(self.check_all(circle, (0, 1), "K"))
        self.assertIsNone(first_opening(circle, "ask"))

    def test_random_ones(self):
        rng = same_rng(111)
        told = {True: 0, False: 0}
        for _ in range(150):
            circle = random_circle(rng, members=4)
            if len(slow_reached(circle)) > 40:
                continue
            for group in rng.sample(all_groups(circle), min(4, len(all_groups(circle)))):
                for thing in rng.sample(ABOUT, 3):
                    told[self.check_all(circle, group, thing) is None] += 1
        self.assertGreater(min(told.values()), 200)

    def test_first_opening(self):
        self.assertEqual(first_opening(ROOM, "hand"), ())
        self.assertEqual(first_opening(circle=ROOM, name="post", most=6), ())
        rng = same_rng(112)
        found = []
        for _ in range(100):
            circle = random_circle(rng)
            for name in circle.names:
                wanted = None
                for world, run in slow_reached(circle).items():
                    if wanted is None and slow_step(circle, world, name)[2]:
                        wanted = run
                self.assertEqual(first_opening(circle, name, 10000), wanted)
                found.append(wanted)
        self.assertIn(None, found)
        self.assertGreater(max(len(run) for run in found if run is not None), 1)

    def test_first_opening_of_any_value(self):
        for value in (*any_values(), "posts", ("post",), ["post"]):
            with self.assertRaises(NoDeed) as told:
                first_opening(ROOM, value)
            self.assertIs(told.exception.name, value)
            with self.assertRaises(TooMany):
                first_opening(ROOM, value, 5)


class HoldersTest(unittest.TestCase):

    def test_by_hand(self):
        self.assertEqual(holders(ROOM, "K"), ((0,), (1,)))
        self.assertEqual(holders(circle=ROOM, thing="L", most=6), ())
        self.assertEqual(holders(ROOM, "a"), ((0,), (1,)))
        keys = ("A", "B", "C", "D")
        self.assertEqual(holders(dealt("S", ((0, 1), (2,), (1, 2, 3), (0, 3)), keys), "S"), ((0, 1), (0, 3), (2,)))
        self.assertEqual(holders(dealt("S", ((1, 2, 3), (0, 3), (0, 2)), keys), "S"), ((0, 2), (0, 3), (1, 2, 3)))
        self.assertEqual(holders(dealt("S", ((0, 1, 2, 3),), keys), "S"), ((0, 1, 2, 3),))

    def test_random_ones(self):
        rng = same_rng(113)
        sizes = set()
        for _ in range(80):
            circle = random_circle(rng, members=4, states=2)
            worlds = slow_reached(circle)
            if len(worlds) > 30:
                continue
            for thing in rng.sample(ABOUT, 3):
                having = [group for group in all_groups(circle)
                          if any(slow_had(STD, pooled_things(world, group), thing) for world in worlds)]
                least = [group for group in having if not any(set(other) < set(group) for other in having)]
                self.assertEqual(holders(circle, thing), tuple(sorted(least)))
                sizes |= {len(group) for group in least}
        self.assertGreaterEqual(sizes, {1, 2})


class MostTest(unittest.TestCase):

    def asks(self, circle, **most):
        """All functions, where the answer comes at once, is never, or is an error."""
        for thing in ("K", "Z", "a"):
            yield lambda: keeps(circle, (0,), thing, **most)
            yield lambda: judge_keeping(circle, (0,), thing, **most)
            yield lambda: first_run(circle, (0,), thing, **most)
            yield lambda: holders(circle, thing, **most)
        yield lambda: first_opening(circle, "post", **most)
        yield lambda: first_opening(circle, None, **most)

    def test_most(self):
        for most in range(9):
            for ask in self.asks(ROOM, most=most):
                if most < 6:
                    with self.assertRaises(TooMany) as told:
                        ask()
                    self.assertEqual(told.exception.most, most)
                else:
                    try:
                        ask()
                    except (Kept, NoDeed):
                        pass

    def test_two_hundred(self):
        for many in (200, 201):
            moves = tuple([(min(at + 1, many - 1), None) for at in range(many)])
            circle = Circle(STD, 1, many, (("post", 0, None, moves),), (("K",),))
            for ask in self.asks(circle):
                try:
                    ask()
                    self.assertEqual(many, 200)
                except TooMany as told:
                    self.assertEqual((many, told.most), (201, 200))
                except (Kept, NoDeed):
                    self.assertEqual(many, 200)


if __name__ == "__main__":
    unittest.main()
