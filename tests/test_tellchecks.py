"""[22]: papers of telling are accepted exactly if they are right, whoever made them."""

import unittest

from circlekeep.books import Book
from circlekeep.circles import Circle
from circlekeep.errors import TooMany
from circlekeep.mates import mates_behind
from circlekeep.runs import after
from circlekeep.tellchecks import telling_holds
from circlekeep.telling import judge_telling
from circlekeep.worlds import worlds_of
from helper import (ROOM, STD, TWO, all_groups, all_runs, any_values, like_circle, mate_key, random_circle, same_rng,
                    slow_covered, slow_mates, slow_reached, slow_run, slow_start, variants, world_key)


def cell_key(cell):
    return world_key(cell[0]), [mate_key(mate) for mate in cell[1]]


def ordered(cells):
    return tuple(sorted({(world, tuple(mates)) for world, mates in cells}, key=cell_key))


def full_cells(one, other, group, most=40):
    """The cells with all mates of all runs, None if there are too many of them or a run has none."""
    found = {}
    waiting = [()]
    while waiting:
        run = waiting.pop()
        mates = mates_behind(one, other, group, run)
        cell = (slow_run(one, run, group)[0], mates)
        if not mates or len(found) > most:
            return None
        if cell not in found:
            found[cell] = True
            waiting.extend([(*run, name) for name in one.names])
    return ordered(found)


# One member; the second circle has a quiet deed ahead of the deed that shows something, and behind it.
QUICK = Circle(STD, 1, 2, (("ask", 0, None, ((1, ("K", (0,))), None)),), ((),))
SLOW = Circle(STD, 1, 4, (("go", 0, None, ((1, None), None, (3, None), None)),
                          ("show", 0, None, (None, (2, ("L", (0,))), None, None))), ((),))
EMPTY = ((),)
GOT = (("L",),)
CORE = (("K", "L"),)


class CoveredTest(unittest.TestCase):

    def holds(self, one, other, group, cells, wanted=None):
        right = slow_covered(one, other, group, cells)
        if wanted is not None:
            self.assertIs(right, wanted, cells)
        self.assertIs(telling_holds(one, other, group, ("covered", cells)), right, cells)
        return right

    def test_by_hand(self):
        begin = (0, EMPTY)
        end = (1, (("K",),))
        for first in ((0, EMPTY), (1, EMPTY)):
            for last in ((2, GOT), (3, GOT)):
                self.holds(QUICK, SLOW, (0,), ((begin, ((first, ()),)), (end, ((last, CORE),))), True)
        both = ((0, EMPTY), ()), ((1, EMPTY), ())
        ends = ((2, GOT), CORE), ((3, GOT), CORE)
        self.holds(QUICK, SLOW, (0,), ((begin, both), (end, ends)), True)
        self.assertIs(telling_holds(one=QUICK, other=SLOW, group=(0,), thing=("covered", ((begin, both), (end, ends)))), True)
        self.holds(QUICK, SLOW, (0,), ((begin, both[::-1]), (end, ends)), False)
        self.holds(QUICK, SLOW, (0,), ((begin, both), (end, ends[::-1])), False)
        self.holds(QUICK, SLOW, (0,), ((begin, (both[0], both[0])), (end, ends)), False)
        self.holds(QUICK, SLOW, (0,), ((end, ends), (begin, both)), False)
        self.holds(QUICK, SLOW, (0,), ((begin, both),), False)
        self.holds(QUICK, SLOW, (0,), ((end, ends),), False)
        self.holds(QUICK, SLOW, (0,), ((begin, both), (begin, both), (end, ends)), False)
        self.holds(QUICK, SLOW, (0,), ((begin, ()), (end, ends)), False)
        self.holds(QUICK, SLOW, (0,), ((begin, both), (end, ())), False)
        self.holds(QUICK, SLOW, (0,), (), False)
        # Several cells with one world, and mates that nobody asks for, if what is asked for is there.
        self.holds(QUICK, SLOW, (0,), ((begin, both[:1]), (begin, both), (begin, both[1:]), (end, ends[:1]), (end, ends)), True)
        self.holds(QUICK, SLOW, (0,), ((begin, (((3, EMPTY), ()),)), (begin, both), (end, ends)), False)
        self.holds(QUICK, SLOW, (0,), ((begin, both), (end, (*ends, ((3, (("L", "M"),)), CORE)))), False)
        self.holds(QUICK, SLOW, (0,), ((begin, both), (end, ends), (end, (*ends, ((3, (("L", "M"),)), CORE)))), True)
        self.holds(QUICK, SLOW, (0,), ((begin, both), (end, ends), ((1, (("K", "X"),)), ends[:1])), True)
        self.holds(QUICK, SLOW, (0,), ((begin, both), ((0, (("X",),)), both), (end, ends)), False)
        self.holds(QUICK, SLOW, (0,), ((begin, both), ((0, (("X",),)), both), (end, ends), ((1, (("K", "X"),)), ends)), True)

    def test_mates_of_the_empty_run(self):
        end = ((1, (("K",),)), (((3, GOT), CORE),))
        for mate in (((2, EMPTY), ()), ((3, EMPTY), ()), ((0, (("A",),)), ()), ((0, EMPTY), CORE), ((1, EMPTY), (("M", "M"),))):
            self.holds(QUICK, SLOW, (0,), (((0, EMPTY), (mate,)), end), False)
            cells = sorted([((0, EMPTY), (mate,)), ((0, EMPTY), (((0, EMPTY), ()),))], key=cell_key)
            self.holds(QUICK, SLOW, (0,), (*cells, end))

    def test_cores(self):
        for core in ((), (("K", "K"),), (("L", "K"),), (("K", "a"),), (("a", "a"), ("K", "L")), (("K", "L"), ("a", "a")),
                     (("K", "L"), ("K", "L")), (("K", "L"), ("M", "L")), [("K", "L")], (["K", "L"],), (("K",),), None, "K",
                     (("K", "L", "L"),), ((("tin", "a"), "L"),), (("K", ("half", "L")),), (("K", ("lock", "a", "L")),),
                     (("K", "L"), ("M", "M")), ((("half", "K"), ("half", "L")),), ((("lock", "a", "K"), ("lock", "b", "K")),),
                     ((("lock", "a", "a"), ("lock", "a", "b")),)):
            self.holds(QUICK, SLOW, (0,), (((0, EMPTY), (((0, EMPTY), ()),)), ((1, (("K",),)), (((3, GOT), core),))), False)
        self.holds(QUICK, SLOW, (0,), (((0, EMPTY), (((0, EMPTY), ()),)), ((1, (("K",),)), (((3, GOT), CORE),))), True)

    def test_just_one_thing_is_shown(self):
        ask = ("ask", 0, None, ((1, ("K", (0,))), (2, ("K", (0,))), None))
        one = Circle(STD, 1, 3, (ask,), ((),))
        end = (2, (("K",),))
        begin = ((0, EMPTY), (((0, EMPTY), ()),))
        right = ((1, (("K",),)), (((1, (("K",),)), (("K", "K"),)),))
        self.holds(one, one, (0,), (begin, right, (end, ((end, (("K", "K"),)),))), True)
        # Two things at once are too many, none is too few.
        self.holds(one, one, (0,), (begin, ((1, (("K",),)), ((end, (("K", "K"),)),)), (end, ((end, (("K", "K"),)),))), False)
        self.holds(one, one, (0,), (begin, right, (end, (((1, (("K",),)), (("K", "K"),)),))), False)
        self.holds(one, one, (0,), (begin, ((1, (("K",),)), (((0, EMPTY), ()),)), (end, (((0, EMPTY), ()),))), False)

    def test_to_the_same_members(self):
        def circle(*members):
            return Circle(STD, 3, 2, (("ask", 0, None, ((1, ("K", members)), None)),), ((), (), ()))
        for ahead in all_groups(circle(0)):
            for behind in all_groups(circle(0)):
                one, other = circle(*ahead), circle(*behind)
                for group in ((0,), (0, 1), (1, 2), (0, 1, 2)):
                    begin = (slow_start(one), ((slow_start(other), ()),))
                    core = (("K", "K"),) if set(group) & set(ahead) else ()
                    follow = after(other, ("ask",)) if core or not set(group) & set(behind) else slow_start(other)
                    self.holds(one, other, group, (begin, (after(one, ("ask",)), ((follow, core),))))

    def test_circles_that_do_not_match(self):
        for other in (Circle(STD, 3, 2, (), ((), (), ())), Circle(Book(STD.kinds, ()), 2, 2, ROOM.deeds, ROOM.firsts)):
            for paper in (("tells", ()), ("covered", ()), judge_telling(ROOM, ROOM, (1,))):
                self.assertIs(telling_holds(ROOM, other, (0,), paper), False)
                self.assertIs(telling_holds(other, ROOM, (0,), paper), False)
        other = Circle(STD, 2, 1, (), ((), ()))
        self.assertIs(telling_holds(ROOM, other, (0,), ("tells", ())), True)
        self.assertIs(telling_holds(other, ROOM, (0,), ("covered", ((slow_start(other), ((slow_start(ROOM), ()),)),))), False)

    def test_any_value(self):
        cells = judge_telling(ROOM, ROOM, (1,))[1]
        self.assertIs(telling_holds(ROOM, ROOM, (1,), ("covered", cells)), True)
        for value in any_values():
            for thing in (value, ("covered", value), ("tells", value), (value, cells), (value, ("post",)), ("covered", (value,)),
                          ("covered", (*cells, value)), ("covered", cells, value), ("covered", ((value, cells[0][1]), *cells[1:])),
                          ("covered", ((cells[0][0], value), *cells[1:])), ("covered", ((cells[0][0], (value,)), *cells[1:])),
                          ("covered", ((cells[0][0], ((value, ()),)), *cells[1:])),
                          ("covered", ((cells[0][0], ((cells[0][0], value),)), *cells[1:]))):
                if isinstance(value, tuple) and value in ((), cells[0][0]):
                    self.assertIn(telling_holds(ROOM, ROOM, (1,), thing), (True, False))
                else:
                    self.assertIs(telling_holds(ROOM, ROOM, (1,), thing), False, thing)
        for wrong in (["covered", cells], ("Covered", cells), ("covered",), cells, ("kept", cells), ("tells", cells)):
            self.assertIs(telling_holds(ROOM, ROOM, (1,), wrong), False)

    def test_papers_with_parts_changed(self):
        rng = same_rng(151)
        told = {True: 0, False: 0}
        for _ in range(70):
            one = random_circle(rng, states=2, members=2, firsts=1)
            other = like_circle(rng, one)
            if max(len(slow_reached(one)), len(slow_reached(other))) > 8 or not one.names:
                continue
            for group in all_groups(one):
                paper = judge_telling(one, other, group)
                self.assertIs(telling_holds(one, other, group, paper), True)
                full = full_cells(one, other, group)
                self.assertIs(full is None, paper[0] == "tells")
                if full is None:
                    continue
                self.holds(one, other, group, full, True)
                pieces = [*full, *paper[1]]
                for cells in [*rng.sample(variants(paper[1]), 5), *self.changed(rng, one, other, pieces)]:
                    told[self.holds(one, other, group, cells)] += 1
        self.assertGreater(min(told.values()), 100)

    def changed(self, rng, one, other, pieces):
        """Cells of some pieces, some of them changed in one way or another."""
        for _ in range(8):
            cells = list(pieces)
            for _ in range(rng.randint(1, 2)):
                at = rng.randrange(len(cells))
                world, mates = cells[at]
                pick = rng.randrange(5) if mates else 2
                if pick == 0 and len(cells) > 1:
                    del cells[at]
                elif pick == 1:
                    drop = rng.randrange(len(mates))
                    cells[at] = (world, mates[:drop] + mates[drop + 1:])
                elif pick == 2:
                    mixed = {*mates, *rng.choice(pieces)[1]}
                    cells[at] = (world, tuple(sorted(mixed, key=mate_key)))
                elif pick == 3:
                    (state, lots), core = rng.choice(mates)
                    cells.append((world, (((rng.randrange(other.states), lots), core),)))
                else:
                    cells.append((rng.choice(pieces)[0], mates))
            yield ordered(cells)


class TellsTest(unittest.TestCase):

    def test_by_hand(self):
        for run, wanted in ((("post", "hand"), True), (("post",), False), ((), False), (("hand",), False), (("hand", "post"), False),
                            (("post", "hand", "post"), True), (("post", "post", "hand"), True), (("hand", "hand", "post"), False),
                            (["post", "hand"], False), (("post", "hands"), False), ("post hand", False), (("post", None), False),
                            (("hand",) * 9000, False), (("post",) * 5000 + ("hand",), True)):
            self.assertIs(telling_holds(ROOM, TWO, (1,), ("tells", run)), wanted)
        self.assertIs(telling_holds(ROOM, ROOM, (1,), ("tells", ("post", "hand"))), False)
        for word in (*any_values(), "Tells", "tell", "covered", "shown", "learns"):
            self.assertIs(telling_holds(ROOM, TWO, (1,), (word, ("post", "hand"))), False)
            self.assertIs(telling_holds(ROOM, TWO, (1,), ("tells", ("post", "hand"), word)), False)

    def test_random_ones(self):
        rng = same_rng(152)
        told = {True: 0, False: 0}
        for _ in range(120):
            one = random_circle(rng, members=3, firsts=1)
            other = like_circle(rng, one)
            group = rng.choice(all_groups(one))
            if max(len(slow_reached(one)), len(slow_reached(other))) > 60:
                continue
            runs = all_runs(one, 3)
            for run in rng.sample(runs, min(10, len(runs))):
                wanted = not slow_mates(one, other, group, run)
                told[wanted] += 1
                self.assertIs(telling_holds(one, other, group, ("tells", run)), wanted)
        self.assertGreater(min(told.values()), 50)


class ManyWorldsTest(unittest.TestCase):

    def test_never_too_many(self):
        deeds = tuple((word, 0, None, ((0, (f"K{at}", (0, 1, 2))),)) for at, word in enumerate("abcdef"))
        deeds += tuple((word, 0, None, ((0, (f"L{at}", (1, 2))),)) for at, word in enumerate("gh"))
        many = Circle(STD, 3, 1, deeds, ((), (), ()))
        still = Circle(STD, 3, 1, (), ((), (), ()))
        start = slow_start(still)
        self.assertIs(telling_holds(still, many, (0,), ("covered", ((start, ((start, ()),)),))), True)
        self.assertIs(telling_holds(many, still, (0,), ("covered", ((start, ((start, ()),)),))), False)
        self.assertIs(telling_holds(many, still, (0,), ("tells", ("g", "h", "a"))), True)
        self.assertIs(telling_holds(many, still, (0,), ("tells", ("g", "h"))), False)
        self.assertIs(telling_holds(many, many, (0,), ("tells", ("a", "b", "a", "c", "d", "e", "f"))), False)
        paper = judge_telling(many, many, (1,), 256)
        self.assertEqual(len(paper[1]), 256)
        self.assertIs(telling_holds(many, many, (1,), paper), True)
        self.assertIs(telling_holds(many, many, (1,), ("covered", paper[1][:-1])), False)

    def test_worlds_without_end_are_not_looked_at(self):
        # Only worlds that lead to those of the mates matter, so the second circle may have any number of worlds.
        groups = ((1,), (2,), (3,), (1, 2), (1, 3), (2, 3), (1, 2, 3))
        deeds = [("d" * (at + 1), 0, None, tuple([(state, (f"K{(at + state) % 8}", groups[(at + 2 * state) % 7]))
                                                  for state in range(6)])) for at in range(5)]
        deeds += [("go", 0, None, tuple([((state + 1) % 6, None) for state in range(6)]))]
        many = Circle(STD, 4, 6, tuple(sorted(deeds)), ((), (), (), ()))
        with self.assertRaises(TooMany):
            worlds_of(many, 10000)
        still = Circle(STD, 4, 1, (), ((), (), (), ()))
        start = slow_start(still)
        cells = tuple((start, (((state, start[1]), ()),)) for state in range(6))
        self.assertIs(telling_holds(still, many, (0,), ("covered", cells)), True)
        mate = (5, ((), ("K0",), (), ()))
        self.assertIs(telling_holds(still, many, (0,), ("covered", ((start, ((mate, ()),)),))), True)
        mate = (5, ((), (), ("K0",), ()))
        self.assertIs(telling_holds(still, many, (0,), ("covered", ((start, ((mate, ()),)),))), False)


if __name__ == "__main__":
    unittest.main()
