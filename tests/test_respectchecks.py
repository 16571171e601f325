"""[25]: papers of policies are accepted exactly if they are right, whoever made them."""

import unittest

from circlekeep.circles import Circle
from circlekeep.likeness import compare
from circlekeep.respectchecks import policy_holds
from circlekeep.respecting import judge_policy
from circlekeep.rows import Row
from circlekeep.worlds import worlds_of
from helper import (POOL, ROOM, STD, all_runs, any_values, is_valid_world, policy_circle, random_policy, same_rng,
                    slow_beginnings, slow_core, slow_lot, slow_look, slow_reached, slow_respected, slow_run, slow_step, slow_told,
                    slow_ways, variants, way_key, world_key)

LOCK = ("lock", "s", "K")
OTHER = ("lock", "t", "K")

# 1 sees one of two locks, and does not know which one 0 chose; it can ask as often as it likes.
ONCE = Circle(STD, 2, 3, (("ask", 1, None, ((2, (LOCK, (1,))), (2, (OTHER, (1,))), (2, ("a", (1,))))),
                          ("go", 0, None, ((1, None), (0, None), None))), (("K",), ()))


def closed(circle, policy, worlds, cells=()):
    """(worlds, cells) with all that is asked for behind some of them, None if something is not fine."""
    found = {world_key(world): world for world in worlds}
    waiting = list(worlds)
    while waiting:
        world = waiting.pop()
        for name in circle.names:
            follow = slow_step(circle, world, name)[0]
            if world_key(follow) not in found:
                found[world_key(follow)] = follow
                waiting.append(follow)
    ways = list(cells)
    for world in found.values():
        for member in range(circle.members):
            ways.extend(slow_beginnings(circle, policy, world, member))
    known = {}
    while ways:
        cell = ways.pop()
        if cell is None:
            return None
        if str(way_key(cell)) not in known and (cell in cells or not is_plain(cell)):
            known[str(way_key(cell))] = cell
            ways.extend(slow_ways(circle, policy, cell))
    return tuple(found[key] for key in sorted(found)), ordered(known.values())


def is_plain(cell):
    return cell[1] == cell[2] and all(left == right for left, right in cell[3])


def ordered(cells):
    found = {str(way_key(cell)): cell for cell in cells}
    return tuple(sorted(found.values(), key=way_key))


class RespectedTest(unittest.TestCase):

    def holds(self, circle, policy, worlds, cells, wanted=None):
        right = slow_respected(circle, policy, worlds, cells)
        if wanted is not None:
            self.assertIs(right, wanted, (worlds, cells))
        self.assertIs(policy_holds(circle, policy, ("respected", worlds, cells)), right, (worlds, cells))
        return right

    def test_room(self):
        worlds = worlds_of(ROOM)
        self.holds(ROOM, ((0, 1),), worlds, (), True)
        self.assertIs(policy_holds(circle=ROOM, policy=((0, 1),), thing=("respected", worlds, ())), True)
        self.holds(ROOM, (), worlds, (), False)
        self.holds(ROOM, ((1, 0),), worlds, (), False)
        self.holds(ROOM, ((0, 1), (1, 0)), worlds, (), True)
        for at in range(6):
            self.holds(ROOM, ((0, 1),), (*worlds[:at], *worlds[at + 1:]), (), False)
            self.holds(ROOM, ((0, 1),), (*worlds[:at], worlds[at], *worlds[at:]), (), False)
            self.holds(ROOM, ((0, 1),), (worlds[at], *worlds[:at], *worlds[at + 1:]), (), at == 0)
        for wrong in (list(worlds), (), None, worlds[::-1], (worlds,), "respected", (*worlds, None), (*worlds, (1, ())), {}):
            self.holds(ROOM, ((0, 1),), wrong, (), False)
        more = (1, (("A", OTHER), ("B", OTHER)))
        self.holds(ROOM, ((0, 1),), tuple(sorted((*worlds, more), key=world_key)), (), True)
        self.holds(ROOM, ((0, 1),), tuple(sorted((*worlds, (1, (("A",), ("B",)))), key=world_key)), (), False)
        self.holds(ROOM, ((0, 1),), tuple(sorted((*worlds, (1, (("A",), ("B",))), more), key=world_key)), (), True)

    def test_once(self):
        worlds, cells = closed(ONCE, (), worlds_of(ONCE))
        self.assertEqual(judge_policy(ONCE, ()), ("respected", worlds, cells))
        self.assertGreater(len(cells), 5)
        self.holds(ONCE, (), worlds, cells, True)
        for at, cell in enumerate(cells):
            self.holds(ONCE, (), worlds, (*cells[:at], *cells[at + 1:]), False)
            self.holds(ONCE, (), worlds, (*cells[:at], cell, *cells[at:]), False)
            self.holds(ONCE, (), worlds, (cell, *cells[:at], *cells[at + 1:]), at == 0)
        for wrong in (list(cells), (), None, cells[::-1], (cells,), tuple(list(cell) for cell in cells), (*cells, None),
                      tuple(cell[:4] for cell in cells), tuple((*cell, ()) for cell in cells)):
            self.holds(ONCE, (), worlds, wrong, False)

    def test_cells_of_the_wrong_form(self):
        worlds, cells = closed(ONCE, (), worlds_of(ONCE))
        at = next(at for at, cell in enumerate(cells) if cell[0] == 1 and cell[3] and cell[4])
        member, one, other, core, heard = cells[at]
        self.assertEqual((member, heard, len(core)), (1, (0,), 1))
        for value in any_values():
            for changed in (value, (value, one, other, core, heard), (member, value, other, core, heard), (member, one, value, core, heard),
                            (member, one, other, value, heard), (member, one, other, core, value), (*cells[at], value)):
                told = policy_holds(ONCE, (), ("respected", worlds, (*cells[:at], changed, *cells[at + 1:])))
                self.assertIs(told, value == cells[at][0] and type(value) is int and changed == cells[at], changed)
            self.assertIs(policy_holds(ONCE, (), ("respected", value, cells)), False)
            self.assertIs(policy_holds(ONCE, (), ("respected", worlds, value)), False)
            self.assertIs(policy_holds(ONCE, (), value), False)
            self.assertIs(policy_holds(ONCE, (), (value, worlds, cells)), False)
            self.assertIs(policy_holds(ONCE, (), ("respected", worlds, cells, value)), False)
        for core in ((("K", "a"),), ((LOCK, OTHER), ("a", "a")), (("a", "a"), (LOCK, OTHER)), ((OTHER, LOCK), (LOCK, OTHER)),
                     (("K", "K"), (LOCK, OTHER)), ((LOCK, OTHER), (LOCK, OTHER)), ((LOCK,),), ((LOCK, OTHER, "a"),), [(LOCK, OTHER)],
                     ((("half", "K"), ("half", "K")),), ((LOCK, ("tin", "a")),), (), (("K", "L"),), ((LOCK, "L"),), ((LOCK, LOCK),)):
            for heard in ((0,), ()):
                self.holds(ONCE, (), worlds, ordered([*cells[:at], *cells[at + 1:]]), False)
                changed = (*cells[:at], (member, one, other, core, heard), *cells[at + 1:])
                self.holds(ONCE, (), worlds, changed, False)
        for heard in ((1,), (0, 1), (0, 0), (2,), (True,), (False,), ("0",), [0], 0, None, (0, 2), ((0,),), (-1,)):
            self.holds(ONCE, (), worlds, (*cells[:at], (member, one, other, core, heard), *cells[at + 1:]), False)
        for wrong in ("respected", ("respected",), ("respected", worlds), ["respected", worlds, cells], ("Respected", worlds, cells),
                      ("shown", worlds, cells), ("kept", worlds, cells), (worlds, cells), ("respected", cells, worlds)):
            self.assertIs(policy_holds(ONCE, (), wrong), False)

    def test_cells_that_nobody_asks_for(self):
        worlds, cells = closed(ONCE, (), worlds_of(ONCE))
        start = (0, (("K",), ()))
        begin = (1, (("K",), ()))
        far = (2, (("L",), ("a", ("half", "M"))))
        near = (2, (("K",), ("a", LOCK)))
        for cell in ((0, start, start, (("K", "K"),), ()), (1, far, far, (), ()), (1, far, near, (("X", "Y"),), ()),
                     (1, near, far, (("Q", LOCK), (LOCK, "Z")), ()), (0, far, near, ((OTHER, LOCK),), (1,)), (1, near, near, (), (0,)),
                     (1, far, near, (("X", "X"), ("Y", "Z")), ()), (1, far, near, (), (0,))):
            # Here all deeds lead back, so that nobody has to be told more but by who has heard.
            more = closed(ONCE, (), worlds, [*cells, cell])
            self.holds(ONCE, (), *more, True)
            self.assertEqual(len(more[1]), len(cells) + 1)
            self.holds(ONCE, (), worlds, ordered([*cells, cell]), True)
            self.holds(ONCE, (), worlds, ordered([cell]), False)
        # What is asked for is asked of each of them.
        for cell, fine in (((1, start, begin, (("X", "Y"),), ()), True), ((1, start, begin, ((LOCK, LOCK),), (0,)), False),
                           ((1, start, near, (), ()), False), ((1, begin, begin, (("X", "Y"),), (0,)), True),
                           ((1, (2, (("L",), ())), (2, ((), ())), (("X", "Y"),), ()), True)):
            self.holds(ONCE, (), worlds, ordered([*cells, cell]), False)
            more = closed(ONCE, (), worlds, [*cells, cell])
            self.assertIs(more is not None, fine)
            if fine:
                self.assertGreater(len(more[1]), len(cells) + 1)
                self.holds(ONCE, (), *more, True)

    def test_more_cores_for_the_same_worlds(self):
        # Cells with the same worlds, unlike in their cores and in who has heard alone.
        worlds, cells = closed(ONCE, (), worlds_of(ONCE))
        far = (2, (("L",), ("a", ("half", "M"))))
        cores = ((), (("K", "K"),), (("K", "L"),), (("K", "L"), ("L", "K")), ((LOCK, "K"),))
        more = [(1, far, far, core, heard) for core in cores for heard in ((), (0,))]
        self.holds(ONCE, (), worlds, ordered([*cells, *more]), True)
        self.holds(ONCE, (), worlds, (*cells, *more[::-1]), False)

    def test_cells_that_are_not_needed(self):
        # Here go leads back, and no is tried and not open, so both worlds are the same.
        circle = Circle(STD, 2, 1, (("ask", 1, None, ((0, (LOCK, (1,))),)), ("go", 0, None, ((0, None),)), ("no", 0, "L", ((0, None),))),
                        (("K",), ()))
        policy = ((1, 0),)
        worlds = worlds_of(circle)
        self.holds(circle, policy, worlds, (), True)
        same = [(1, world, world, tuple((thing, thing) for thing in world[1][1]), (0,)) for world in worlds]
        for cells in (same, same[:1], same[1:], [*same, (0, worlds[0], worlds[0], (("K", "K"),), (1,))]):
            self.holds(circle, policy, worlds, ordered(cells), True)
        # What comes of such a one is needed, as not each pair has one thing twice, or both worlds are not the same.
        other = (0, ((), ("L",)))
        for cell in ((1, worlds[0], worlds[0], (("X", "Y"),), ()), (1, worlds[0], other, (), (0,)), (0, other, other, (("K", "L"),), ())):
            self.holds(circle, policy, worlds, (cell,), False)
            more = closed(circle, policy, worlds, [cell])
            self.assertEqual(len(more[1]), 2)
            self.holds(circle, policy, *more, True)

    def test_who_may_have_heard(self):
        # A cell that nobody asks for, and behind which nothing comes: it has to have the right form all the same.
        still = Circle(STD, 4, 1, (), (("K",), (), (), ()))
        start = worlds_of(still)
        for heard, wanted in (((), True), ((1,), True), ((0, 1), True), ((0, 1, 3), True), ((1, 0), False), ((0, 0), False), ((3, 1), False),
                              ((2,), False), ((0, 2), False), ((0, 4), False), ((-1,), False), ((0, True), False), ((False, 1), False),
                              ([0, 1], False), (0, False), (None, False), ((None,), False), (("0",), False)):
            self.holds(still, (), start, ((2, start[0], start[0], (("X", "Y"),), heard),), wanted)
        for member, wanted in ((0, True), (3, True), (4, False), (-1, False), (True, False), (None, False), ("1", False), ((1,), False)):
            self.holds(still, (), start, ((member, start[0], start[0], (("X", "Y"),), ()),), wanted)

    def test_who_has_heard(self):
        # The state that 0 changes shows when 1 asks, who may be told; 2 sees it then, and may be told by 1.
        circle = Circle(STD, 3, 2, (("ask", 1, None, ((0, ("s", (2,))), (1, ("t", (2,))))), ("go", 0, None, ((1, None), (1, None)))),
                        ((), (), ()))
        policy = ((0, 1), (1, 2))
        worlds, cells = closed(circle, policy, worlds_of(circle))
        self.holds(circle, policy, worlds, cells, True)
        at = next(at for at, cell in enumerate(cells) if cell[0] == 2)
        for heard in ((), (0,)):
            self.holds(circle, policy, worlds, (*cells[:at], (*cells[at][:4], heard), *cells[at + 1:]), False)
        self.holds(circle, ((0, 1),), worlds, cells, False)
        self.holds(circle, ((1, 2),), worlds, cells, False)

    def test_papers_with_parts_changed(self):
        rng = same_rng(181)
        told = {True: 0, False: 0}
        for _ in range(160):
            circle = policy_circle(rng, states=2, members=3)
            if len(slow_reached(circle)) > 8:
                continue
            policy = random_policy(rng, circle, rng.choice((0.1, 0.4)))
            paper = judge_policy(circle, policy)
            self.assertIs(policy_holds(circle, policy, paper), True)
            full = closed(circle, policy, worlds_of(circle))
            self.assertIs(full is None, paper[0] == "shown")
            if full is None:
                continue
            self.assertEqual(paper[1:], full)
            wide = closed(circle, policy, self.more_worlds(rng, circle, full[0]), self.more_cells(rng, circle, full))
            if wide is not None:
                self.holds(circle, policy, *wide, True)
            for worlds, cells in [full] + ([wide] if wide else []):
                for value in rng.sample(variants(worlds), 3):
                    told[self.holds(circle, policy, value, cells)] += 1
                for value in [*rng.sample(variants(cells), 3), *self.changed(rng, circle, worlds, cells)]:
                    told[self.holds(circle, policy, worlds, value)] += 1
        self.assertGreater(min(told.values()), 100, told)

    def more_worlds(self, rng, circle, worlds):
        """Some worlds, and one that perhaps is not reached."""
        state, lots = rng.choice(worlds)
        more = (rng.randrange(circle.states), tuple(slow_lot((*lot, *rng.sample(POOL, rng.randint(0, 1)))) for lot in lots))
        self.assertTrue(is_valid_world(circle, more))
        return tuple({world_key(world): world for world in (*worlds, more)}.values())

    def more_cells(self, rng, circle, full):
        """Some cells, one of which perhaps nobody asks for."""
        worlds, cells = full
        member = rng.randrange(circle.members)
        things = rng.sample(POOL, 2)
        core = slow_core(STD, things, rng.sample(things, 2))
        heard = tuple(at for at in range(circle.members) if at != member and rng.random() < 0.5)
        return [*cells, (member, rng.choice(worlds), rng.choice(worlds), core or (), heard)]

    def changed(self, rng, circle, worlds, cells):
        """Cells of a paper changed in one way or another."""
        for _ in range(4):
            found = list(cells)
            if found:
                at = rng.randrange(len(found))
                member, one, other, core, heard = found[at]
                pick = rng.randrange(5)
                if pick == 0:
                    del found[at]
                elif pick == 1:
                    found[at] = (member, one, other, core, tuple(rng.sample(heard, max(0, len(heard) - 1))))
                elif pick == 2:
                    found[at] = (member, other, one, tuple((right, left) for left, right in core), heard)
                elif pick == 3:
                    found.append((rng.randrange(circle.members), one, other, core, heard))
                else:
                    found[at] = (member, one, other, core[1:], heard)
            world = rng.choice(worlds)
            found.append((0, world, world, slow_core(STD, world[1][0], world[1][0]), ()))
            yield ordered(found)


class ShownTest(unittest.TestCase):

    def test_room(self):
        for member, run, other, paper, wanted in (
                (1, (), ("post",), None, True), (1, ("post",), (), None, True), (1, (), ("hand",), None, True),
                (0, (), ("post",), None, False), (1, (), (), None, False), (1, ("post",), ("post",), None, False),
                (1, ("hand",), ("post",), None, False), (1, ("post", "hand"), ("hand",), None, True), (2, (), ("post",), None, False),
                (True, (), ("post",), None, False), (-1, (), ("post",), None, False), ("1", (), ("post",), None, False),
                (1, [], ("post",), None, False), (1, (), "post", None, False), (1, (), ("none",), None, False),
                (1, (), ("post",), (), False), (1, (), ("post",), ("alike", ()), False), (1, (), ("post",), ("comes", (("shown", 0),)), False),
                (1, (), ("post",) * 4000, None, True), (1, ("post",) * 4000, ("post",) * 4001, None, True)):
            self.assertIs(policy_holds(ROOM, (), ("shown", member, run, other, paper)), wanted, (member, run, other))
            if wanted:
                self.assertIs(policy_holds(ROOM, ((1, 0),), ("shown", member, run, other, paper)), True)
                self.assertIs(policy_holds(ROOM, ((0, 1),), ("shown", member, run, other, paper)), False)

    def test_each_sort_of_paper(self):
        # Each run shows two things to 1.
        run, other = ("hand", "post"), ("post", "hand")
        same = (("shown", 0), ("shown", 1), ("open", "open", (1, 0)), ("word", "t"))
        for paper, wanted in ((("comes", same[:3]), True), (("comes", (("shown", 0), ("shown", 1), ("open", "open", (0, 1)))), True),
                              (("comes", (("shown", 0),)), False), (("same", same, same[:3]), False), (("comes", same), False),
                              (("same", same[:1], same[:2]), False), (None, False), (("alike", ()), False),
                              (("alike", (("K", LOCK), (OTHER, "K"))), False), (("comes", ()), False), ((), False)):
            self.assertIs(policy_holds(ROOM, (), ("shown", 1, run, other, paper)), wanted, paper)
        # Both ways the lock is opened at the other place.
        run, other = ("hand", "post"), ("post", "post")
        self.assertIs(policy_holds(ROOM, (), ("shown", 1, run, other, ("comes", same[:3]))), True)
        self.assertIs(policy_holds(ROOM, (), ("shown", 1, run, other, ("same", same[:1], same[:2]))), True)
        self.assertIs(policy_holds(ROOM, (), ("shown", 1, run, other, ("same", same[:1], same[:1]))), False)
        circle = Circle(STD, 2, 2, (("ask", 1, None, ((1, ("s", (1,))), (0, ("t", (1,))))), ("go", 0, None, ((1, None), (0, None)))),
                        ((), ()))
        for paper, wanted in ((("same", (("shown", 0),), (("word", "s"),)), True), (("same", (("word", "t"),), (("shown", 0),)), True),
                              (("same", (("word", "u"),), (("shown", 0),)), False), (("comes", (("shown", 0),)), False), (None, False)):
            self.assertIs(policy_holds(circle, (), ("shown", 1, ("ask",), ("go", "ask"), paper)), wanted)
        self.assertIs(policy_holds(circle, ((0, 1),), ("shown", 1, ("ask",), ("go", "ask"), ("same", (("shown", 0),), (("word", "s"),)))),
                      False)
        # Rows that are alike show nothing, whatever the paper.
        for paper in (None, ("alike", ()), ("alike", (("K", "K"),)), ("comes", (("shown", 0),)), ("same", (("shown", 0),), (("shown", 0),))):
            self.assertIs(policy_holds(ROOM, (), ("shown", 1, ("hand",), ("post",), paper)), False)
            self.assertIs(policy_holds(ROOM, (), ("shown", 1, ("hand",), ("hand",), paper)), False)

    def test_any_value(self):
        paper = ("shown", 1, (), ("post",), None)
        for value in any_values():
            for at in range(5):
                changed = (*paper[:at], value, *paper[at + 1:])
                wanted = (at == 1 and type(value) is int and value == 1) or (at == 2 and value == ()) or (at == 4 and value is None)
                self.assertIs(policy_holds(ROOM, (), changed), wanted, changed)
            self.assertIs(policy_holds(ROOM, (), (*paper, value)), False)
        for wrong in (list(paper), paper[:4], paper[1:], ("Shown", *paper[1:]), ("respected", *paper[1:]), (paper,)):
            self.assertIs(policy_holds(ROOM, (), wrong), False)

    def test_random_ones(self):
        rng = same_rng(182)
        told = {}
        for _ in range(250):
            circle = policy_circle(rng)
            policy = random_policy(rng, circle, 0.2)
            runs = all_runs(circle, 3)
            for _ in range(12):
                run, other = rng.choice(runs), rng.choice(runs)
                member = rng.randrange(circle.members)
                rows = [Row(STD, slow_run(circle, one, (member,))[1]) for one in (run, other)]
                paper = compare(*rows) if len(rows[0]) == len(rows[1]) else None
                same = slow_told(circle, policy, run)[member] == slow_told(circle, policy, other)[member]
                wanted = same and slow_look(circle, (member,), run) != slow_look(circle, (member,), other)
                key = same, wanted, paper is None
                told[key] = told.get(key, 0) + 1
                self.assertIs(policy_holds(circle, policy, ("shown", member, run, other, paper)), wanted)
                if paper is not None:
                    self.assertIs(policy_holds(circle, policy, ("shown", member, run, other, None)), False)
                    changed = rng.choice(variants(paper))
                    self.assertIn(policy_holds(circle, policy, ("shown", member, run, other, changed)), (wanted, False))
        self.assertGreater(min(told.values()), 10, told)
        self.assertEqual(len(told), 5, told)


class ManyWorldsTest(unittest.TestCase):

    def test_never_too_many(self):
        deeds = tuple((word, at % 3, None, ((0, (f"K{at}", (at % 3,))),)) for at, word in enumerate("abcdefgh"))
        circle = Circle(STD, 3, 1, deeds, ((), (), ()))
        paper = judge_policy(circle, (), 256)
        self.assertEqual((paper[0], len(paper[1])), ("respected", 256))
        self.assertIs(policy_holds(circle, (), paper), True)
        self.assertIs(policy_holds(circle, (), ("respected", paper[1][:-1], paper[2])), False)
        self.assertIs(policy_holds(circle, (), ("respected", paper[1], paper[2][1:])), False)
        self.assertIs(policy_holds(circle, (), ("shown", 1, (), ("a",), None)), False)
        loud = Circle(STD, 3, 1, (*deeds, ("k", 0, None, ((0, ("K", (0, 1))),))), ((), (), ()))
        self.assertIs(policy_holds(loud, (), ("shown", 1, (), ("k",), None)), True)


if __name__ == "__main__":
    unittest.main()
