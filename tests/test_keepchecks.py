"""[19]: papers of keeping are accepted exactly if they are right, whoever made them."""

import unittest

from circlekeep.circles import Circle
from circlekeep.keepchecks import keeping_holds
from circlekeep.keeping import judge_keeping
from circlekeep.recipes import is_recipe
from circlekeep.rows import Row
from circlekeep.worlds import worlds_of
from helper import (POOL, ROOM, STD, all_groups, all_runs, any_values, pooled_things, random_circle, random_thing, same_rng,
                    slow_had, slow_kept, slow_lot, slow_reached, slow_run, slow_step, slow_value, variants, world_key)

LOCK = ("lock", "s", "K")
OTHER = ("lock", "t", "K")


def cells_of(circle, group, thing):
    """The cells of the paper that a thing is kept, as a list."""
    word, cells = judge_keeping(circle, group, thing)
    assert word == "kept"
    return list(cells)


def ordered(cells):
    return tuple(sorted(cells, key=lambda cell: world_key(cell[0])))


class KeptTest(unittest.TestCase):

    def holds(self, circle, group, about, cells, wanted):
        self.assertIs(keeping_holds(circle, group, about, ("kept", cells)), wanted, cells)
        self.assertIs(slow_kept(circle, group, about, cells), wanted, cells)

    def test_by_hand(self):
        cells = ordered([((0, (("K",), ())), ()), ((0, (("K", LOCK), (LOCK,))), (LOCK,)), ((1, (("K",), ("K",))), ("K",)),
                         ((1, (("K", LOCK), ("K", LOCK))), ("K", LOCK)), ((1, (("K", OTHER), ("K", OTHER))), ("K", OTHER)),
                         ((1, (("K", LOCK, OTHER), ("K", LOCK, OTHER))), ("K", LOCK, OTHER))])
        self.holds(ROOM, (1,), "L", cells, True)
        self.assertIs(keeping_holds(circle=ROOM, group=(1,), about="L", thing=("kept", cells)), True)
        # The words s and t are made of nothing, so they need not stand in the closed sets; K has to.
        self.holds(ROOM, (0, 1), "L", cells, False)
        pooled = ordered([(world, ("K", *closed) if "K" not in closed else closed) for world, closed in cells])
        self.holds(ROOM, (0, 1), "L", pooled, True)
        self.holds(ROOM, (1,), "K", cells, False)
        self.holds(ROOM, (1,), "s", cells, False)

    def test_other_closed_sets(self):
        cells = cells_of(ROOM, (1,), "L")
        for more in (("a",), ("Z",), ("s",), (("half", "Z"),), (("lock", "L", "Z"),), ("K",), (("pair", "K", "K"), "K"),
                     (("lock", "s", "Z"), "Z"), POOL[:1]):
            self.holds(ROOM, (1,), "L", tuple((world, slow_lot((*closed, *more))) for world, closed in cells), True)
        for more in (("L",), (("lock", "L", "Z"), "Z"), (("pair", "a", "Z"),), (("lock", "L", "K"), "K"), (("sign", "L", "Z"),)):
            self.holds(ROOM, (1,), "L", tuple((world, slow_lot((*closed, *more))) for world, closed in cells), False)
        for at, (world, closed) in enumerate(cells):
            for wrong in (closed[1:], closed[::-1], (*closed, *closed[-1:]), list(closed), None, ("closed", closed),
                          (*closed, None), (("tin", "a"), *closed), cells[at - 1][1], cells[at - 2][1]):
                changed = (*cells[:at], (world, wrong), *cells[at + 1:])
                self.assertIs(keeping_holds(ROOM, (1,), "L", ("kept", changed)), slow_kept(ROOM, (1,), "L", changed), changed)

    def test_cells_left_out_twice_or_exchanged(self):
        cells = cells_of(ROOM, (1,), "L")
        for at in range(6):
            self.holds(ROOM, (1,), "L", (*cells[:at], *cells[at + 1:]), False)
            self.holds(ROOM, (1,), "L", (*cells[:at], cells[at], *cells[at:]), False)
            self.holds(ROOM, (1,), "L", (cells[at], *cells[:at], *cells[at + 1:]), at == 0)
        for wrong in (list(cells), (), None, tuple(cells[::-1]), "kept", (cells,), tuple(list(cell) for cell in cells),
                      tuple(cell[0] for cell in cells), tuple((*cell, ()) for cell in cells)):
            self.holds(ROOM, (1,), "L", wrong, False)

    def test_cells_that_need_not_be_there(self):
        cells = cells_of(ROOM, (1,), "L")
        # Nothing is open behind this one but post, which leads back.
        more = (1, (("A", OTHER), ("B", OTHER)))
        self.holds(ROOM, (1,), "L", ordered([*cells, (more, ("B", OTHER))]), True)
        self.holds(ROOM, (1,), "L", ordered([*cells, (more, (OTHER,))]), False)
        self.holds(ROOM, (1,), "L", ordered([*cells, ((1, (("A",), ("B",))), ("B",))]), False)
        self.holds(ROOM, (1,), "L", ordered([*cells, ((1, (("A",), ("B",))), ("B",)), (more, ("B", OTHER))]), True)
        for world in ((2, (("K",), ())), (0, (("K",),)), (True, (("K",), ("K",))), (1, (("K", "K"), ())), (1, ["K", ()]), None,
                      (1, ((("tin", "a"),), ()))):
            self.holds(ROOM, (1,), "L", (*cells, (world, ())), False)

    def test_what_the_group_does_not_see(self):
        circle = Circle(STD, 2, 1, (("ask", 0, None, ((0, ("K", (0,))),)),), ((), ()))
        cells = (((0, ((), ())), ()), ((0, (("K",), ())), ()))
        self.holds(circle, (1,), "K", cells, True)
        self.holds(circle, (0,), "K", cells, False)
        self.holds(circle, (0, 1), "K", cells, False)
        self.holds(circle, (0,), "L", (((0, ((), ())), ()), ((0, (("K",), ())), ("K",))), True)
        self.holds(circle, (1,), "K", cells[:1], False)

    def test_deeds_that_are_not_open(self):
        circle = Circle(STD, 2, 1, (("ask", 0, "L", ((0, ("K", (1,))),)),), ((), ("L",)))
        self.holds(circle, (1,), "K", (((0, ((), ("L",))), ("L",)),), True)
        # In a world that is not reached the deed can be open.
        self.holds(circle, (1,), "K", (((0, ((), ("L",))), ("L",)), ((0, (("L",), ("L",))), ("L",))), False)

    def test_random_ones(self):
        rng = same_rng(121)
        told = {True: 0, False: 0}
        for _ in range(150):
            circle = random_circle(rng, states=2, members=2)
            if len(slow_reached(circle)) > 12:
                continue
            group = rng.choice(all_groups(circle))
            thing = random_thing(rng, STD, 1, ("K", "L", "M", "s", "N"))
            paper = judge_keeping(circle, group, thing)
            self.assertIs(keeping_holds(circle, group, thing, paper), True)
            if paper[0] == "had":
                continue
            other = rng.choice(POOL)
            found = [*rng.sample(variants(paper[1]), 25), *self.changed(rng, circle, paper[1])]
            for cells in found:
                wanted = slow_kept(circle, group, thing, cells)
                told[wanted] += 1
                self.assertIs(keeping_holds(circle, group, thing, ("kept", cells)), wanted, cells)
            self.assertIs(keeping_holds(circle, group, other, paper), slow_kept(circle, group, other, paper[1]))
        self.assertGreater(min(told.values()), 100)

    def changed(self, rng, circle, cells):
        """Cells with something more that may or may not be right."""
        at = rng.randrange(len(cells))
        (state, lots), closed = cells[at]
        more = slow_lot((*closed, random_thing(rng, STD, 2)))
        yield (*cells[:at], ((state, lots), more), *cells[at + 1:])
        grown = tuple(slow_lot((*lot, rng.choice(POOL))) for lot in lots)
        added = {cell[0]: cell for cell in [*cells, ((state, grown), slow_lot((*closed, *[t for lot in grown for t in lot])))]}
        yield ordered(added.values())
        for world in list(added):
            for name in circle.names:
                follow = slow_step(circle, world, name)[0]
                added.setdefault(follow, (follow, slow_lot((*closed, *[t for lot in follow[1] for t in lot]))))
        yield ordered(added.values())


class HadTest(unittest.TestCase):

    def holds(self, group, about, run, recipe, wanted, circle=ROOM):
        self.assertIs(keeping_holds(circle, group, about, ("had", run, recipe)), wanted, (run, recipe))

    def test_by_hand(self):
        shown = (("shown", 0),)
        self.holds((1,), "K", ("hand",), shown, True)
        self.holds((1,), "K", ("hand", "hand", "post"), shown, True)
        self.holds((1,), "K", ("post", "hand"), (("shown", 1),), True)
        self.holds((1,), "K", ("post", "hand"), shown, False)
        self.holds((1,), LOCK, ("post", "hand"), shown, True)
        self.holds((1,), "s", ("post", "hand"), (("shown", 0), ("shown", 1), ("open", "open", (0, 1))), True)
        self.holds((1,), "t", ("post", "hand"), (("shown", 0), ("shown", 1), ("open", "open", (0, 1))), False)
        self.holds((1,), "s", ("post",), (("shown", 0), ("shown", 1), ("open", "open", (0, 1))), False)
        self.holds((1,), "s", ("post", "post"), (("shown", 0), ("shown", 1), ("open", "open", (0, 1))), False)
        self.holds((1,), "s", (), (("word", "s"),), True)
        self.holds((1,), "K", (), shown, False)
        self.holds((0,), "K", (), shown, True)
        self.holds((0, 1), ("pair", "K", "K"), ("hand",), (("shown", 0), ("shown", 1), ("make", "pair", (0, 1))), True)
        self.holds((0,), ("pair", "K", "K"), ("hand",), (("shown", 0), ("shown", 1), ("make", "pair", (0, 1))), False)
        self.holds((1,), "K", ("hand",), (("shown", 0), ("open", "first", (0,))), False)
        self.holds((1,), "K", ("hand",), (("shown", 1), ("shown", 0)), False)
        self.holds((1,), "K", ("hand",) * 8000, shown, True)
        self.holds((1,), "K", ("post",) * 4000 + ("hand",), (("shown", 4000),), True)

    def test_forms(self):
        shown = (("shown", 0),)
        for value in any_values():
            self.holds((1,), "K", value, shown, False)
            self.holds((1,), "K", ("hand",), value, value == shown)
            self.assertIs(keeping_holds(ROOM, (1,), "K", value), False)
            self.assertIs(keeping_holds(ROOM, (0,), "K", value), isinstance(value, tuple) and value == ("had", (), shown))
            for word in ("had", "kept"):
                self.assertIs(keeping_holds(ROOM, (1,), "K", (word, value)), False)
            self.assertIs(keeping_holds(ROOM, (1,), "K", ("had", ("hand",), shown, value)), False)
            self.assertIs(keeping_holds(ROOM, (1,), "K", (value, ("hand",), shown)), False)
        for wrong in (["had", ("hand",), shown], ("had", ["hand"], shown), ("had", ("hand",), list(shown)), ("had", "hand", shown),
                      ("kept", ("hand",), shown), ("Had", ("hand",), shown), ("had", ("hand", "none"), shown), ("had",), ()):
            self.assertIs(keeping_holds(ROOM, (1,), "K", wrong), False)

    def test_random_ones(self):
        rng = same_rng(122)
        told = {True: 0, False: 0}
        for _ in range(200):
            circle = random_circle(rng)
            if len(slow_reached(circle)) > 60:
                continue
            group = rng.choice(all_groups(circle))
            thing = rng.choice(POOL)
            paper = judge_keeping(circle, group, thing)
            self.assertIs(keeping_holds(circle, group, thing, paper), True)
            if paper[0] != "had":
                continue
            runs = rng.sample(all_runs(circle, 2), min(4, len(all_runs(circle, 2))))
            for value in [*variants(paper)[:60], *[("had", run, paper[2]) for run in runs]]:
                wanted = self.slow_had(circle, group, thing, value)
                told[wanted] += 1
                self.assertIs(keeping_holds(circle, group, thing, value), wanted, value)
        self.assertGreater(min(told.values()), 50)

    def slow_had(self, circle, group, thing, value):
        """[19]: whether any value is a paper that a thing is not kept."""
        if not isinstance(value, tuple) or len(value) != 3 or value[0] != "had" or not isinstance(value[1], tuple):
            return False
        if not all(isinstance(name, str) and name in circle.names for name in value[1]):
            return False
        row = Row(STD, slow_run(circle, value[1], group)[1])
        return is_recipe(row, value[2]) and slow_value(row, value[2]) == thing

    def test_a_circle_with_many_worlds(self):
        names = ("K", "L", "M", "N", "O", "P")
        deeds = tuple((word, 0, None, ((0, (names[at], (0, 1, 2))),)) for at, word in enumerate("abcdef"))
        deeds += (("g", 1, None, ((0, ("Q", (1,))),)), ("h", 2, None, ((0, ("R", (2,))),)))
        circle = Circle(STD, 3, 1, deeds, ((), (), ()))
        self.assertEqual(len(worlds_of(circle, 1000)), 256)
        paper = judge_keeping(circle, (0, 1, 2), "Z", 1000)
        self.assertIs(keeping_holds(circle, (0, 1, 2), "Z", paper), True)
        self.assertIs(keeping_holds(circle, (0, 1, 2), "Z", ("kept", paper[1][:-1])), False)
        self.assertFalse(slow_had(STD, pooled_things(paper[1][-1][0], (0, 1, 2)), "Z"))


if __name__ == "__main__":
    unittest.main()
