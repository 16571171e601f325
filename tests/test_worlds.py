"""[16] [20]: worlds, deeds that are open, reached worlds and the first runs to them."""

import unittest

from circlekeep.circles import Circle
from circlekeep.errors import NoDeed, TooMany
from circlekeep.rows import Row
from circlekeep.worlds import (behind, first_run_to, is_open, is_world, lot_row, shown_by, start_of, worlds_of)
from helper import (ROOM, STD, all_groups, all_runs, any_values, pooled_things, random_circle, same_rng, slow_lot,
                    slow_reached, slow_start, slow_step, variants, world_key)

LOCK = ("lock", "s", "K")
START = (0, (("K",), ()))


def circle(need, owner=0, firsts=((), ()), moves=((1, ("M", (1,))), None)):
    return Circle(STD, 2, 2, (("ask", owner, need, moves),), firsts)


class WorldTest(unittest.TestCase):

    def test_any_value(self):
        for value in any_values():
            wanted = isinstance(value, tuple) and value == START and type(value[1]) is tuple
            self.assertIs(is_world(ROOM, value), wanted, value)
        self.assertIs(is_world(circle=ROOM, thing=START), True)

    def test_by_hand(self):
        for world in (START, (1, ((), ())), (0, (("A", "B"), ("K", LOCK))), (1, (("L", LOCK), (("half", "a"), "z")))):
            self.assertIs(is_world(ROOM, world), True, world)
        for world in ((2, ((), ())), (-1, ((), ())), (True, ((), ())), (None, ((), ())), ("0", ((), ())), (0, ((),)),
                      (0, ((), (), ())), (0, (("B", "A"), ())), (0, (("A", "A"), ())), (0, ((), ("lock", LOCK))),
                      (0, ((), (LOCK, "K"))), (0, [(), ()]), (0, ([], ())), [0, ((), ())], (0,), (0, ((), ()), ()), (0, ()),
                      (0, (None, ())), (0, ((None,), ())), (0, ((("tin", "a"),), ())), (((), ()), 0), (0, ("", ())),
                      (0, ("K", ()))):
            if world != (0, ((), ("lock", LOCK))):
                self.assertIs(is_world(ROOM, world), False, world)
        self.assertIs(is_world(ROOM, (0, ((), ("lock", LOCK)))), True)

    def test_texts_are_what_ascends(self):
        # As Python compares them a tuple and a string have no order.
        self.assertIs(is_world(ROOM, (0, ((("half", "a"), "halg"), ()))), True)
        self.assertIs(is_world(ROOM, (0, (("half", ("half", "a")), ()))), True)
        self.assertIs(is_world(ROOM, (0, ((("half", "a"), "half"), ()))), False)

    def test_variants(self):
        for value in variants((0, (("K", LOCK), ("L",)))):
            wanted = isinstance(value, tuple) and len(value) == 2 and value[0] in (0, 1) and type(value[0]) is int
            wanted = wanted and isinstance(value[1], tuple) and len(value[1]) == 2
            wanted = wanted and all(isinstance(lot, tuple) and all(STD.is_thing(thing) for thing in lot)
                                    and lot == slow_lot(lot) for lot in value[1])
            self.assertIs(is_world(ROOM, value), wanted, value)

    def test_great_states(self):
        made = Circle(STD, 1, 10 ** 40 - 1, (), (("K",),))
        self.assertIs(is_world(made, (10 ** 40 - 2, ((),))), True)
        self.assertIs(is_world(made, (10 ** 40 - 1, ((),))), False)
        self.assertEqual(worlds_of(made), ((0, (("K",),)),))

    def test_start(self):
        self.assertEqual(start_of(ROOM), START)
        made = circle(None, firsts=(("b", LOCK, "L", "K", "L", LOCK), ("a", "a")))
        self.assertEqual(start_of(circle=made), (0, (("K", "L", "b", LOCK), ("a",))))

    def test_lot_row(self):
        world = (1, (("K", LOCK), (), ("A", "K", LOCK)))
        made = Circle(STD, 3, 2, (), ((), (), ()))
        self.assertEqual(lot_row(made, world, (0,)), Row(STD, ("K", LOCK)))
        self.assertEqual(lot_row(made, world, (1,)), Row(STD, ()))
        self.assertEqual(lot_row(circle=made, world=world, group=(0, 2)), Row(STD, ("A", "K", LOCK)))
        self.assertEqual(lot_row(made, (0, (("Z",), ("B", "a"), ("A",))), (0, 1, 2)), Row(STD, ("A", "B", "Z", "a")))


class OpenTest(unittest.TestCase):

    def test_moves(self):
        for state, wanted in ((0, True), (1, False)):
            world = (state, ((), ("K",)))
            made = circle(None)
            self.assertIs(is_open(made, world, "ask"), wanted)
            self.assertEqual(shown_by(made, world, "ask"), ("M", (1,)) if wanted else None)
            self.assertEqual(behind(made, world, "ask"), (1, ((), ("K", "M"))) if wanted else world)

    def test_needs(self):
        for need, lot, wanted in (
                ("K", (), False), ("K", ("K",), True), ("K", ("L",), False), ("s", (), True), (("half", "s"), (), True),
                (("half", "K"), ("K",), True), (("half", "K"), (("half", "K"),), True), ("K", (("half", "K"),), False),
                ("S", (("lock", "S", "K"), "K"), True), ("S", ("K", ("lock", "S", "K")), True),
                ("S", (("lock", "S", "K"), ("lock", "L", "M")), False), ("K", (("pair", "a", ("pair", "K", "L")),), True),
                ("S", ("A", ("lock", "B", "A"), ("lock", "C", "B"), ("lock", "S", "C")), True),
                ("S", ("Z", ("lock", "S", "B"), ("lock", "B", "C"), ("lock", "C", "Z")), True),
                ("S", (("lock", "B", "A"), ("lock", "C", "B"), ("lock", "S", "C")), False),
                (("pair", "K", "L"), ("K", "L"), True), (("pair", "K", "L"), ("K",), False)):
            lot = slow_lot(lot)
            for owner in (0, 1):
                made = circle(need, owner)
                for state in (0, 1):
                    lots = ((), lot) if owner else (lot, ())
                    world = (state, lots)
                    ready = wanted and state == 0
                    self.assertIs(is_open(made, world, "ask"), ready, (need, lot))
                    self.assertEqual(shown_by(made, world, "ask"), ("M", (1,)) if ready else None)
                    grown = (1, (lots[0], slow_lot((*lots[1], "M"))))
                    self.assertEqual(behind(made, world, "ask"), grown if ready else world)
                    # What the other member has does not matter.
                    turned = (state, lots[::-1])
                    self.assertIs(is_open(made, turned, "ask"), state == 0 and need in ("s", ("half", "s")))

    def test_shows(self):
        made = Circle(STD, 3, 1, (("ask", 0, None, ((0, (LOCK, (0, 2))),)), ("bid", 1, None, ((0, None),))), ((), (), ()))
        world = (0, (("L",), ("A",), (LOCK, "mark")))
        self.assertEqual(shown_by(circle=made, world=world, name="ask"), (LOCK, (0, 2)))
        self.assertEqual(behind(circle=made, world=world, name="ask"), (0, (("L", LOCK), ("A",), (LOCK, "mark"))))
        self.assertIsNone(shown_by(made, world, "bid"))
        self.assertEqual(behind(made, world, "bid"), world)
        self.assertIs(is_open(circle=made, world=world, name="bid"), True)

    def test_any_name(self):
        for value in (*any_values(), "posts", "pos", "post ", ("post",), ["post"]):
            for ask in (is_open, shown_by, behind):
                with self.assertRaises(NoDeed) as told:
                    ask(ROOM, START, value)
                self.assertIs(told.exception.name, value)

    def test_random_ones(self):
        rng = same_rng(81)
        ready = 0
        for _ in range(150):
            made = random_circle(rng, members=4, firsts=4)
            worlds = list(slow_reached(made))[:20]
            worlds += [(rng.randrange(made.states), lots) for _, lots in worlds[:5]]
            for world in worlds:
                self.assertIs(is_world(made, world), True)
                for name in made.names:
                    follow, show, done = slow_step(made, world, name)
                    ready += done
                    self.assertIs(is_open(made, world, name), done)
                    self.assertEqual(shown_by(made, world, name), show)
                    self.assertEqual(behind(made, world, name), follow)
                for group in all_groups(made):
                    self.assertEqual(lot_row(made, world, group).things, pooled_things(world, group))
        self.assertGreater(ready, 500)


class ReachedTest(unittest.TestCase):

    def test_room(self):
        worlds = worlds_of(ROOM)
        self.assertEqual(len(worlds), 6)
        self.assertEqual(worlds[0], START)
        self.assertEqual(worlds[-1], (1, (("K", ("lock", "t", "K")),) * 2))
        self.assertEqual(first_run_to(ROOM, START), ())
        self.assertEqual(first_run_to(ROOM, worlds[-1]), ("hand", "post"))
        both = ("K", LOCK, ("lock", "t", "K"))
        self.assertEqual(first_run_to(circle=ROOM, world=(1, (both, both)), most=6), ("post", "hand", "post"))
        self.assertIsNone(first_run_to(ROOM, (0, (both, both))))
        self.assertIsNone(first_run_to(ROOM, (1, (("Z",), ()))))

    def test_too_many(self):
        for made, many in ((ROOM, 6), (Circle(STD, 1, 1, (), ((),)), 1)):
            self.assertEqual(len(worlds_of(circle=made, most=many)), many)
            for most in range(many):
                for ask in (worlds_of, lambda made, most: first_run_to(made, start_of(made), most),
                            lambda made, most: first_run_to(made, (0, (("Z",),) * made.members), most=most)):
                    with self.assertRaises(TooMany) as told:
                        ask(made, most)
                    self.assertEqual(told.exception.most, most)

    def test_two_hundred(self):
        def line(many):
            moves = tuple([(min(at + 1, many - 1), None) for at in range(many)])
            return Circle(STD, 1, many, (("go", 0, None, moves),), ((),))
        self.assertEqual(len(worlds_of(line(200))), 200)
        self.assertEqual(first_run_to(line(200), (199, ((),))), ("go",) * 199)
        self.assertEqual(len(worlds_of(line(201), 201)), 201)
        for ask in (worlds_of, lambda made: first_run_to(made, (0, ((),)))):
            with self.assertRaises(TooMany) as told:
                ask(line(201))
            self.assertEqual(told.exception.most, 200)

    def test_random_ones(self):
        rng = same_rng(82)
        counts = []
        for _ in range(120):
            made = random_circle(rng, deeds=4)
            reached = slow_reached(made)
            if len(reached) > 60:
                continue
            counts.append(len(reached))
            worlds = worlds_of(made, len(reached))
            self.assertEqual(list(worlds), sorted(reached, key=world_key))
            with self.assertRaises(TooMany):
                worlds_of(made, len(reached) - 1)
            for world, run in reached.items():
                self.assertEqual(first_run_to(made, world), run)
            self.assertIsNone(first_run_to(made, (0, (("Z",),) * made.members)))
        self.assertGreater(max(counts), 20)

    def test_first_runs_are_least(self):
        rng = same_rng(83)
        for _ in range(40):
            made = random_circle(rng)
            found = {}
            for run in all_runs(made, 4):
                world = slow_start(made)
                for name in run:
                    world = slow_step(made, world, name)[0]
                found.setdefault(world, run)
            for world, run in found.items():
                self.assertEqual(first_run_to(made, world, 10000), run)


if __name__ == "__main__":
    unittest.main()
