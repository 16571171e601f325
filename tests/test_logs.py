"""[31]: rows that were told back, and the runs that they fit."""

import unittest

from circlekeep.books import Book
from circlekeep.circles import Circle
from circlekeep.errors import Mismatch, TooMany
from circlekeep.logs import ends_fitting, first_fitting
from circlekeep.rows import Row
from circlekeep.runs import seen, seers
from helper import (POOL, ROOM, STD, all_groups, all_runs, random_circle, same_rng, slow_picture, slow_reached, slow_run,
                    slow_swapped)

LOCK = ("lock", "s", "K")
OTHER = ("lock", "t", "K")


def searched(circle, group, row, told, most):
    """The first run of at most so many deeds that a row and its seers fit, None if there is none, and all their ends."""
    first = None
    ends = set()
    picture = slow_picture(row)
    for run in all_runs(circle, most):
        world, things, members = slow_run(circle, run, group)
        if members == told and len(things) == len(row) and slow_picture(Row(circle.book, things)) == picture:
            first = run if first is None else first
            ends.add(world[0])
    return first, tuple(sorted(ends))


class LogsTest(unittest.TestCase):

    def check(self, circle, group, things, told, first, ends):
        row = Row(circle.book, things)
        self.assertEqual(first_fitting(circle, group, row, told), first)
        self.assertEqual(ends_fitting(circle, group, row, told), ends)

    def test_room(self):
        self.check(ROOM, (1,), (), (), (), (0,))
        self.check(ROOM, (1,), (LOCK,), ((1,),), ("hand",), (0, 1))
        self.check(ROOM, (1,), ("Q",), ((1,),), ("hand",), (0, 1))
        self.check(ROOM, (1,), ("a",), ((1,),), None, ())
        self.check(ROOM, (1,), ("L", ("lock", "t", "L")), ((1,),) * 2, ("hand", "post"), (1,))
        self.check(ROOM, (1,), (("lock", "s", "L"), "L"), ((1,),) * 2, ("post", "hand"), (1,))
        self.check(ROOM, (1,), (("lock", "t", "L"), "L"), ((1,),) * 2, None, ())
        self.check(ROOM, (1,), ("L", "L"), ((1,),) * 2, ("post", "post"), (0,))
        self.check(ROOM, (1,), ("L", "M"), ((1,),) * 2, None, ())
        # Member 0 has K at first, so it does not see hand.
        self.check(ROOM, (0,), ("K",), ((0,),), (), (0, 1))
        self.check(ROOM, (0,), ("L", ("lock", "t", "L")), ((0,),) * 2, ("hand", "post"), (1,))
        self.check(ROOM, (0,), (), (), None, ())
        self.check(ROOM, (0,), ("K", OTHER, LOCK), ((0,),) * 3, None, ())
        self.check(ROOM, (0, 1), ("K", "K"), ((0,), (1,)), ("hand",), (1,))
        self.check(ROOM, (0, 1), ("K", LOCK), ((0,), (0, 1)), ("post",), (0,))
        row = Row(STD, ("Q",))
        self.assertEqual(first_fitting(circle=ROOM, group=(1,), row=row, seers=((1,),), most=6), ("hand",))
        self.assertEqual(ends_fitting(circle=ROOM, group=(1,), row=row, seers=((1,),), most=6), (0, 1))

    def test_seers(self):
        for told in (((0,), (0,)), ((0,), (1,)), ((1,), (0, 1)), ((0, 1), (0, 1)), ((1,), (1,))):
            self.check(ROOM, (0, 1), ("K", LOCK), told, None, ())
        for told in (((0,), (0, 1)), ((1,), (1,)), ((0, 1), (1,)), ((0,), (0,))):
            self.check(ROOM, (0, 1), ("K", "K"), told, None, ())
        deeds = (("ask", 0, None, ((0, ("K", (0, 1))),)), ("bid", 0, None, ((0, ("L", (1, 2))),)), ("cut", 0, None, ((0, ("M", (1,))),)))
        circle = Circle(STD, 3, 1, deeds, ((), (), ()))
        for group in all_groups(circle):
            for told in all_groups(circle):
                if set(told) <= set(group):
                    names = [name for name, members in (("ask", (0, 1)), ("bid", (1, 2)), ("cut", (1,))) if told == tuple(
                        member for member in members if member in group)]
                    self.check(circle, group, ("X",), (told,), (names[0],) if names else None, (0,) if names else ())

    def test_firsts(self):
        circle = Circle(STD, 2, 1, (("ask", 0, None, ((0, ("K", (0, 1))),)),), (("a", "L"), ("L", "L")))
        self.check(circle, (0,), ("a", "X"), ((0,),) * 2, (), (0,))
        self.check(circle, (0,), ("X", "a"), ((0,),) * 2, None, ())
        self.check(circle, (0,), ("a",), ((0,),), None, ())
        self.check(circle, (1,), ("X", "X"), ((1,),) * 2, (), (0,))
        self.check(circle, (1,), ("X", "Y"), ((1,),) * 2, None, ())
        self.check(circle, (0, 1), ("a", "X", "X", "X"), ((0,), (0,), (1,), (1,)), (), (0,))
        self.check(circle, (0, 1), ("a", "X", "X", "X"), ((0,), (1,), (1,), (1,)), None, ())
        self.check(circle, (0, 1), ("a", "X", "X", "X", "Y", "Y"), ((0,), (0,), (1,), (1,), (0, 1), (0, 1)), ("ask", "ask"), (0,))
        self.check(circle, (0, 1), ("a", "X", "X", "X", "Y", "X"), ((0,), (0,), (1,), (1,), (0, 1), (0, 1)), None, ())

    def test_no_deeds(self):
        still = Circle(STD, 2, 3, (), (("K",), ()))
        self.check(still, (1,), (), (), (), (0,))
        self.check(still, (0,), ("Z",), ((0,),), (), (0,))
        self.check(still, (0,), ("z",), ((0,),), None, ())
        self.check(still, (1,), ("Z",), ((1,),), None, ())

    def test_quiet_deeds(self):
        # Behind what was seen the state may still have changed; the first run is shortest.
        deeds = (("go", 0, None, ((1, None), (2, None), None)), ("show", 0, None, (None, (1, ("K", (0,))), (2, ("s", (0,))))))
        circle = Circle(STD, 1, 3, deeds, ((),))
        self.check(circle, (0,), (), (), (), (0, 1, 2))
        self.check(circle, (0,), ("K",), ((0,),), ("go", "show"), (1, 2))
        self.check(circle, (0,), ("K", "s"), ((0,),) * 2, ("go", "show", "go", "show"), (2,))
        self.check(circle, (0,), ("K", "K", "s"), ((0,),) * 3, ("go", "show", "show", "go", "show"), (2,))
        self.check(circle, (0,), ("s",), ((0,),), ("go", "go", "show"), (2,))
        self.check(circle, (0,), ("s", "K"), ((0,),) * 2, None, ())

    def test_random_ones(self):
        rng = same_rng(261)
        told = {True: 0, False: 0}
        for _ in range(120):
            circle = random_circle(rng, members=3, firsts=1, deeds=4)
            if len(slow_reached(circle)) > 60:
                continue
            group = rng.choice(all_groups(circle))
            for run in rng.sample(all_runs(circle, 3), min(4, len(all_runs(circle, 3)))):
                for things, members in self.rows(rng, *slow_run(circle, run, group)[1:]):
                    row = Row(STD, things)
                    first, ends = searched(circle, group, row, members, 3)
                    found = first_fitting(circle, group, row, members)
                    told[found is not None] += 1
                    if first is None and found is not None:
                        self.assertGreater(len(found), 3)
                        _, again, seers_again = slow_run(circle, found, group)
                        self.assertEqual(seers_again, members)
                        self.assertEqual(slow_picture(Row(STD, again)), slow_picture(row))
                    else:
                        self.assertEqual(found, first)
                    states = ends_fitting(circle, group, row, members)
                    self.assertLessEqual(set(ends), set(states))
                    self.assertIs(states == (), found is None)
        self.assertGreater(min(told.values()), 150, told)

    def rows(self, rng, things, members):
        """Rows as they were seen, with other names, with another word, a thing more or less, or other seers."""
        yield things, members
        names = dict(zip("KLM", rng.sample(("K", "X", "Y", "Z", "M"), 3)))
        yield tuple(slow_swapped(thing, names) for thing in things), members
        yield tuple(slow_swapped(thing, {"K": "L"}) for thing in things), members
        if things:
            at = rng.randrange(len(things))
            yield (*things[:at], *things[at + 1:]), (*members[:at], *members[at + 1:])
            yield (*things, things[at]), (*members, members[at])
            yield (*things[:at], rng.choice(POOL), *things[at + 1:]), members
            yield (*things[:at], ("lock", "u", "K"), *things[at + 1:]), members
            yield things, (*members[:at], members[rng.randrange(len(members))], *members[at + 1:])

    def test_ends_exactly(self):
        # With few states all ends come soon.
        rng = same_rng(262)
        many = 0
        for _ in range(80):
            circle = random_circle(rng, states=2, members=2, firsts=1, deeds=3)
            group = rng.choice(all_groups(circle))
            for run in rng.sample(all_runs(circle, 2), min(3, len(all_runs(circle, 2)))):
                row, told = seen(circle, run, group), seers(circle, run, group)
                first, ends = searched(circle, group, row, told, 4)
                self.assertEqual(first_fitting(circle, group, row, told), first)
                self.assertEqual(ends_fitting(circle, group, row, told), ends)
                many += len(ends) > 1
        self.assertGreater(many, 20)


class ErrorsTest(unittest.TestCase):

    def test_errors(self):
        other = Row(Book(STD.kinds, ()), ("K",))
        for ask in (first_fitting, ends_fitting):
            with self.assertRaises(Mismatch) as told:
                ask(ROOM, (1,), other, ((1,),))
            self.assertEqual(told.exception.part, "book")
            with self.assertRaises(Mismatch):
                ask(ROOM, (1,), other, ((1,),), 6)
            for row in (other, Row(STD, ("K",)), Row(STD, ("a",))):
                for most in range(6):
                    with self.assertRaises(TooMany) as told:
                        ask(ROOM, (1,), row, ((1,),), most)
                    self.assertEqual(told.exception.most, most)
            moves = tuple([(min(at + 1, 200), None) for at in range(201)])
            line = Circle(STD, 2, 201, (("go", 0, None, moves),), ((), ()))
            with self.assertRaises(TooMany) as told:
                ask(line, (1,), Row(STD, ()), ())
            self.assertEqual(told.exception.most, 200)
            self.assertIn(ask(line, (1,), Row(STD, ()), (), 201), ((), tuple(range(201))))


class LimitsTest(unittest.TestCase):

    def test_rows_of_twelve_things(self):
        deeds = tuple((word, 0, None, tuple([((state + at) % 2, (f"K{at + state}", (0, 1))) for state in range(2)]))
                      for at, word in enumerate("abcdef"))
        circle = Circle(STD, 2, 2, deeds, ((), ()))
        run = tuple("abcdef" * 2)
        row, told = seen(circle, run, (0, 1)), seers(circle, run, (0, 1))
        found = first_fitting(circle, (0, 1), row, told, 400)
        self.assertEqual(slow_picture(seen(circle, found, (0, 1))), slow_picture(row))
        self.assertLessEqual(found, run)
        self.assertIn(slow_run(circle, run, (0, 1))[0][0], ends_fitting(circle, (0, 1), row, told, 400))
        for word in ("a", "s"):
            self.assertIsNone(first_fitting(circle, (1,), Row(STD, (*row.things[:11], word)), ((1,),) * 12, 400))


if __name__ == "__main__":
    unittest.main()
