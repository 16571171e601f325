"""[21]: the mates of runs."""

import unittest

from circlekeep.books import Book
from circlekeep.circles import Circle
from circlekeep.errors import Mismatch, TooMany
from circlekeep.mates import mates_behind
from circlekeep.pairlots import core_of, is_pair_lot
from circlekeep.runs import after
from circlekeep.worlds import is_world
from helper import (ROOM, STD, TWO, WIDE, all_groups, all_runs, like_circle, mate_key, random_circle, same_rng, slow_mates,
                    slow_reached)

LOCK = ("lock", "s", "K")
ULOCK = ("lock", "u", "K")


class MatesTest(unittest.TestCase):

    def check(self, one, other, group, run, wanted):
        self.assertEqual(mates_behind(one, other, group, run), wanted)
        self.assertEqual(list(wanted), slow_mates(one, other, group, run))

    def test_room(self):
        self.check(ROOM, ROOM, (1,), (), (((0, (("K",), ())), ()),))
        self.check(ROOM, TWO, (1,), ("post",),
                   (((0, (("K", ULOCK), (ULOCK,))), ((LOCK, ULOCK),)), ((1, (("K",), ("K",))), ((LOCK, "K"),))))
        self.check(ROOM, TWO, (1,), ("post", "hand"), ())
        self.check(ROOM, TWO, (0,), ("post",), ())
        self.check(ROOM, TWO, (0, 1), ("hand",), (((1, (("K",), ("K",))), (("K", "K"),)),))
        self.check(ROOM, TWO, (0,), ("hand",), (((0, (("K",), ())), (("K", "K"),)), ((1, (("K",), ("K",))), (("K", "K"),))))
        # Hand is tried and is not open, so nothing more is seen.
        self.check(ROOM, TWO, (1,), ("hand", "hand"), mates_behind(ROOM, TWO, (1,), ("hand",)))
        self.assertEqual(mates_behind(one=ROOM, other=TWO, group=(1,), run=("post",), most=6),
                         mates_behind(ROOM, TWO, (1,), ("post",)))

    def test_unlike_deeds_and_states(self):
        other = Circle(STD, 2, 3, (("go", 1, None, ((1, None), (2, ("M", (1,))), None)), ("no", 0, "N", ((0, None),) * 3)),
                       (("X",), ()))
        self.check(ROOM, other, (1,), ("hand",), (((2, (("X",), ("M",))), (("K", "M"),)),))
        self.check(ROOM, other, (1,), ("hand", "post"), ())
        self.check(ROOM, other, (0,), (), (((0, (("X",), ())), (("K", "X"),)), ((1, (("X",), ())), (("K", "X"),)),
                                           ((2, (("X",), ("M",))), (("K", "X"),))))
        self.check(other, ROOM, (0,), ("go", "go", "go"), (((0, (("K",), ())), (("X", "K"),)), ((1, (("K",), ("K",))), (("X", "K"),))))
        self.check(other, ROOM, (1,), ("no",), (((0, (("K",), ())), ()),))

    def test_unlike_firsts(self):
        def circle(*firsts):
            return Circle(STD, 2, 1, (("ask", 0, None, ((0, ("K", (0, 1))),)),), firsts)
        one = circle(("A", "B"), ("C",))
        for other, groups in ((circle(("A",), ("B", "C")), ()), (circle(("A", "B"), ()), ((0,),)), (circle((), ("C",)), ((1,),)),
                              (circle(("A", "A"), ("C",)), ((1,),)), (circle(("A", "B"), ("A",)), ((0,), (1,))),
                              (circle(("D", "E"), ("F",)), ((0,), (1,), (0, 1))), (circle(("D", "a"), ("F",)), ((1,),))):
            for group in ((0,), (1,), (0, 1)):
                found = mates_behind(one, other, group, ())
                self.assertEqual(list(found), slow_mates(one, other, group, ()))
                self.assertIs(bool(found), group in groups, (other.firsts, group))

    def test_who_sees_it(self):
        def circle(*members):
            return Circle(STD, 3, 1, (("ask", 0, None, ((0, ("K", members)),)),), ((), (), ()))
        for ahead in all_groups(circle(0)):
            for behind in all_groups(circle(0)):
                for group in all_groups(circle(0)):
                    mates = mates_behind(circle(*ahead), circle(*behind), group, ("ask",))
                    self.assertEqual(list(mates), slow_mates(circle(*ahead), circle(*behind), group, ("ask",)))
                    seen = set(ahead) & set(group)
                    self.assertIs(bool(mates), not seen or seen == set(behind) & set(group))

    def test_order(self):
        names = ("A", "B", "C")
        deeds = tuple((word, 0, None, ((0, (name, (0,))),)) for word, name in zip("abc", names))
        circle = Circle(STD, 1, 1, deeds, ((),))
        found = mates_behind(circle, circle, (0,), ("a", "b"))
        self.assertEqual(list(found), sorted(found, key=mate_key))
        self.assertEqual([core for _, core in found[:2]], [(("A", "A"), ("B", "B")), (("A", "B"), ("B", "A"))])
        self.assertEqual(len(found), 6)
        # A core that another one begins with is ahead of it; here the worlds are one and the same.
        lock = ("lock", "s", "L")
        circle = Circle(STD, 1, 1, (("a", 0, None, ((0, ("K", (0,))),)), ("b", 0, None, ((0, (lock, (0,))),))), ((),))
        found = mates_behind(circle, circle, (0,), ("a", "b", "a"))
        self.assertEqual(list(found), slow_mates(circle, circle, (0,), ("a", "b", "a")))
        self.assertEqual([core for _, core in found], [(("K", "K"), (lock, lock)), (("K", lock), (lock, "K"))])

    def test_random_ones(self):
        rng = same_rng(131)
        counts = []
        for _ in range(60):
            one = random_circle(rng, members=3)
            other = like_circle(rng, one)
            if max(len(slow_reached(one)), len(slow_reached(other))) > 60:
                continue
            for group in rng.sample(all_groups(one), min(2, len(all_groups(one)))):
                runs = all_runs(one, 3)
                for run in rng.sample(runs, min(8, len(runs))):
                    found = mates_behind(one, other, group, run)
                    self.assertEqual(list(found), slow_mates(one, other, group, run))
                    counts.append(len(found))
                    for world, core in found:
                        self.assertTrue(is_world(other, world))
                        self.assertTrue(is_pair_lot(STD, core))
                        self.assertEqual(core_of(STD, core), core)
                    if one == other:
                        self.assertIn(after(one, run), [world for world, _ in found])
        self.assertGreater(max(counts), 4)
        self.assertGreater(counts.count(0), 10)

    def test_long_runs(self):
        run = ("post", "hand") * 30
        self.assertEqual(mates_behind(ROOM, ROOM, (1,), run), ((after(ROOM, run), (("K", "K"),)),))


class ErrorsTest(unittest.TestCase):

    def check(self, one, other, error, told, most=200):
        for group in ((0,), (1,)):
            with self.assertRaises(error) as caught:
                mates_behind(one, other, group, (), most)
            self.assertEqual(caught.exception.part if error is Mismatch else caught.exception.most, told)

    def test_mismatch(self):
        empty = Book(STD.kinds, ())
        self.check(ROOM, Circle(empty, 2, 2, ROOM.deeds, ROOM.firsts), Mismatch, "book", 0)
        self.check(Circle(WIDE, 3, 2, (), ((), (), ())), ROOM, Mismatch, "book", 0)
        self.check(ROOM, Circle(STD, 3, 2, (), ((), (), ())), Mismatch, "members", 0)
        self.check(Circle(STD, 4, 1, (), ((),) * 4), ROOM, Mismatch, "members", 0)

    def test_too_many(self):
        few = Circle(STD, 2, 1, (), (("K",), ()))
        for one, other in ((ROOM, ROOM), (ROOM, few), (few, ROOM)):
            for most in range(6):
                self.check(one, other, TooMany, most, most)
            self.assertEqual(len(mates_behind(one, other, (1,), (), 6)), 1)
        self.check(few, few, TooMany, 0, 0)
        self.assertEqual(len(mates_behind(few, few, (1,), (), 1)), 1)
        moves = tuple([(min(at + 1, 200), None) for at in range(201)])
        line = Circle(STD, 2, 201, (("go", 0, None, moves),), (("K",), ()))
        self.check(line, few, TooMany, 200)
        self.check(few, line, TooMany, 200)
        self.assertEqual(len(mates_behind(few, line, (1,), (), 201)), 201)


if __name__ == "__main__":
    unittest.main()
