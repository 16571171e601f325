"""[30]: desks, to which deeds are done, taken back and put again."""

import copy
import unittest

from circlekeep.circles import Circle
from circlekeep.desk import Desk
from circlekeep.errors import NoDeed, NothingToRedo, NothingToUndo, TooMany
from circlekeep.having import is_had
from circlekeep.knowing import knows
from circlekeep.runs import after, seen
from circlekeep.worlds import is_open, start_of
from helper import POOL, ROOM, STD, all_groups, any_values, random_circle, same_rng, slow_had, slow_reached, slow_run, slow_step


class Shadow:
    """[30]: what a desk keeps, by all that was ever done."""

    def __init__(self, circle):
        self.circle = circle
        self.run = []
        self.undone = []

    def do(self, name):
        opened = slow_step(self.circle, slow_run(self.circle, self.run, (0,))[0], name)[2]
        self.run.append(name)
        self.undone = []
        return opened

    def undo(self):
        if not self.run:
            raise NothingToUndo()
        self.undone.append(self.run.pop())

    def redo(self):
        if not self.undone:
            raise NothingToRedo()
        self.run.append(self.undone.pop())


class DeskTest(unittest.TestCase):

    def check(self, desk, circle, run):
        """What a desk says of its run."""
        self.assertIs(desk.circle, circle)
        self.assertEqual(desk.run, run)
        self.assertIsInstance(desk.run, tuple)
        self.assertEqual(desk.world, after(circle, run))
        self.assertEqual(len(desk), len(run))
        for group in all_groups(circle):
            self.assertEqual(desk.row(group), seen(circle, run, group))

    def test_room(self):
        desk = Desk(ROOM)
        self.check(desk, ROOM, ())
        self.assertEqual(desk.world, start_of(ROOM))
        self.assertIs(desk.do("post"), True)
        self.assertIs(desk.do("hand"), True)
        self.check(desk, ROOM, ("post", "hand"))
        self.assertIs(desk.do(name="hand"), False)
        self.check(desk, ROOM, ("post", "hand", "hand"))
        self.assertIsNone(desk.undo())
        self.assertIsNone(desk.undo())
        self.check(desk, ROOM, ("post",))
        self.assertIsNone(desk.redo())
        self.check(desk, ROOM, ("post", "hand"))
        self.assertIs(desk.do("post"), True)
        with self.assertRaises(NothingToRedo):
            desk.redo()
        self.check(desk, ROOM, ("post", "hand", "post"))
        made = Desk(circle=ROOM)
        self.check(made, ROOM, ())

    def test_nothing_to_undo_and_to_redo(self):
        desk = Desk(ROOM)
        for ask, error in ((desk.undo, NothingToUndo), (desk.redo, NothingToRedo)):
            with self.assertRaises(error):
                ask()
            self.check(desk, ROOM, ())
        desk.do("hand")
        with self.assertRaises(NothingToRedo):
            desk.redo()
        self.check(desk, ROOM, ("hand",))
        desk.undo()
        with self.assertRaises(NothingToUndo):
            desk.undo()
        self.check(desk, ROOM, ())
        desk.redo()
        with self.assertRaises(NothingToRedo):
            desk.redo()
        self.check(desk, ROOM, ("hand",))

    def test_what_was_put_again_can_be_taken_back_and_put_again(self):
        desk = Desk(ROOM)
        for name in ("post", "post", "hand", "post"):
            desk.do(name)
        for _ in range(3):
            for size in (3, 2, 1, 0):
                desk.undo()
                self.check(desk, ROOM, ("post", "post", "hand", "post")[:size])
            for size in (1, 2, 3, 4):
                desk.redo()
                self.check(desk, ROOM, ("post", "post", "hand", "post")[:size])
        desk.undo()
        desk.undo()
        desk.redo()
        desk.undo()
        desk.do("post")
        with self.assertRaises(NothingToRedo):
            desk.redo()
        self.check(desk, ROOM, ("post", "post", "post"))

    def test_no_deed(self):
        desk = Desk(ROOM)
        desk.do("post")
        desk.do("hand")
        desk.undo()
        for value in (*any_values(), "Hand", "hands", ("hand",)):
            with self.assertRaises(NoDeed) as told:
                desk.do(value)
            self.assertIs(told.exception.name, value)
            self.check(desk, ROOM, ("post",))
        # It does not count as done: what was taken back can still be put again.
        desk.redo()
        self.check(desk, ROOM, ("post", "hand"))
        still = Desk(Circle(STD, 1, 1, (), ((),)))
        with self.assertRaises(NoDeed):
            still.do("hand")
        self.assertEqual((still.run, len(still), still.world), ((), 0, (0, ((),))))

    def test_every_order(self):
        rng = same_rng(251)
        told = {NothingToUndo: 0, NothingToRedo: 0, True: 0, False: 0, None: 0}
        for _ in range(40):
            circle = random_circle(rng)
            if not circle.names:
                continue
            desk = Desk(circle)
            shadow = Shadow(circle)
            for _ in range(30):
                pick = rng.choice(("do", "do", "undo", "undo", "redo"))
                arguments = (rng.choice(circle.names),) if pick == "do" else ()
                try:
                    wanted = getattr(shadow, pick)(*arguments)
                    self.assertIs(getattr(desk, pick)(*arguments), wanted)
                    told[wanted] += 1
                except (NothingToUndo, NothingToRedo) as error:
                    with self.assertRaises(type(error)):
                        getattr(desk, pick)(*arguments)
                    told[type(error)] += 1
                self.check(desk, circle, tuple(shadow.run))
        self.assertGreater(min(told.values()), 10, told)

    def test_has(self):
        rng = same_rng(252)
        told = {True: 0, False: 0}
        for _ in range(50):
            circle = random_circle(rng)
            desk = Desk(circle)
            for _ in range(4 if circle.names else 0):
                name = rng.choice(circle.names)
                self.assertIs(desk.do(name), is_open(circle, after(circle, desk.run[:-1]), name))
                for group in all_groups(circle):
                    for thing in rng.sample(POOL, 4):
                        wanted = slow_had(STD, dict.fromkeys(slow_run(circle, desk.run, group)[1]), thing)
                        self.assertIs(desk.has(group, thing), wanted)
                        told[wanted] += 1
        self.assertGreater(min(told.values()), 100)
        desk = Desk(ROOM)
        desk.do("post")
        for value in any_values():
            for group in all_groups(ROOM):
                self.assertIs(desk.has(group, value), is_had(seen(ROOM, ("post",), group), value))
        self.assertIs(desk.has(group=(1,), thing=("lock", "s", "K")), True)
        self.assertIs(desk.has((1,), "s"), True)
        self.assertIs(desk.has((1,), "K"), False)
        desk.do("hand")
        self.assertIs(desk.has((1,), "K"), True)

    def test_knows(self):
        desk = Desk(ROOM)
        self.assertIs(desk.knows((1,), (0,)), True)
        desk.do("hand")
        self.assertIs(desk.knows((1,), (1,)), False)
        self.assertIs(desk.knows((0, 1), (1,)), True)
        desk.do("post")
        self.assertIs(desk.knows(group=(1,), states=(1,), most=6), True)
        self.assertIs(desk.knows((1,), ()), False)
        for most in range(6):
            with self.assertRaises(TooMany) as told:
                desk.knows((1,), (1,), most)
            self.assertEqual(told.exception.most, most)
            self.check(desk, ROOM, ("hand", "post"))
        moves = tuple([(min(at + 1, 200), None) for at in range(201)])
        line = Desk(Circle(STD, 1, 201, (("go", 0, None, moves),), ((),)))
        with self.assertRaises(TooMany) as told:
            line.knows((0,), (0,))
        self.assertEqual(told.exception.most, 200)
        self.assertIs(line.knows((0,), tuple(range(201)), 201), True)

    def test_knows_as_knows(self):
        rng = same_rng(253)
        for _ in range(40):
            circle = random_circle(rng)
            if len(slow_reached(circle)) > 30 or not circle.names:
                continue
            desk = Desk(circle)
            for _ in range(3):
                desk.do(rng.choice(circle.names))
                for group in all_groups(circle):
                    states = tuple(sorted(rng.sample(range(circle.states), rng.randint(0, circle.states))))
                    self.assertIs(desk.knows(group, states), knows(circle, group, desk.run, states))

    def test_two_desks_do_not_meet(self):
        one, other = Desk(ROOM), Desk(ROOM)
        one.do("post")
        one.do("hand")
        one.undo()
        self.check(other, ROOM, ())
        with self.assertRaises(NothingToRedo):
            other.redo()
        other.do("hand")
        self.check(one, ROOM, ("post",))
        one.redo()
        self.check(one, ROOM, ("post", "hand"))
        self.check(other, ROOM, ("hand",))

    def test_equal_to_no_other_value(self):
        desk = Desk(ROOM)
        for value in (*any_values(), ROOM, (), 0, ROOM.firsts, None):
            self.assertNotEqual(desk, value)
            self.assertNotEqual(value, desk)
        self.assertEqual(desk, desk)

    def test_nothing_but_the_desk_is_changed(self):
        desk = Desk(ROOM)
        before = copy.deepcopy(vars(ROOM))
        for ask in (lambda: desk.do("post"), lambda: desk.undo(), lambda: desk.redo(), lambda: desk.row((0, 1)),
                    lambda: desk.has((1,), "K"), lambda: desk.knows((1,), (0,)), lambda: len(desk)):
            ask()
            self.assertEqual(vars(ROOM), before)
        for ask in (lambda: desk.row((0, 1)), lambda: desk.has((1,), ("lock", "s", "K")), lambda: desk.knows((1,), (0,)), lambda: len(desk)):
            kept = copy.deepcopy(vars(desk))
            self.assertEqual(ask(), ask())
            self.assertEqual(vars(desk), kept)

    def test_two_hundred_calls(self):
        desk = Desk(ROOM)
        run = []
        for at in range(66):
            run.extend(["post", "hand", "post"][at % 3:])
            for name in ("post", "hand", "post")[at % 3:]:
                desk.do(name)
        for _ in range(60):
            desk.undo()
        self.check(desk, ROOM, tuple(run[:-60]))
        for _ in range(60):
            desk.redo()
        self.check(desk, ROOM, tuple(run))
        self.assertIs(desk.knows((1,), (1,)), True)
        for _ in range(200):
            self.assertIs(desk.has((1,), "t"), True)


if __name__ == "__main__":
    unittest.main()
