"""[23] [25]: whether policies are respected, and papers of it."""

import unittest

from circlekeep.circles import Circle
from circlekeep.errors import TooMany
from circlekeep.likeness import compare_holds
from circlekeep.respecting import judge_policy, respects
from circlekeep.rows import Row
from helper import (ROOM, STD, all_runs, policy_circle, random_circle, random_policy, same_rng, slow_look, slow_reached, slow_respected,
                    slow_run, slow_told, way_key)

ALL = ((0, 1), (0, 2), (1, 0), (1, 2), (2, 0), (2, 1))


def searched(circle, policy, most):
    """Two runs of at most so many deeds that tell a member the same and look unlike to it, None if there are none."""
    first = {}
    for run in all_runs(circle, most):
        for member, told in enumerate(slow_told(circle, policy, run)):
            look = slow_look(circle, (member,), run)
            other = first.setdefault((member, told), (run, look))
            if other[1] != look:
                return member, other[0], run
    return None


class Checked(unittest.TestCase):

    def check(self, circle, policy, wanted=None):
        """The answers, and the paper word by word; tells the paper."""
        paper = judge_policy(circle, policy)
        respected = paper[0] == "respected"
        if wanted is not None:
            self.assertIs(respected, wanted)
        self.assertIs(respects(circle, policy), respected)
        if respected:
            self.assertEqual(len(paper), 3)
            self.assertTrue(slow_respected(circle, policy, *paper[1:]))
        else:
            self.assertEqual((paper[0], len(paper)), ("shown", 5))
            self.check_shown(circle, policy, *paper[1:])
        return paper

    def check_shown(self, circle, policy, member, run, other, paper):
        """[25]: the paper that a policy is not respected."""
        for one in (run, other):
            self.assertIsInstance(one, tuple)
            self.assertTrue(set(one) <= set(circle.names))
        self.assertEqual(slow_told(circle, policy, run)[member], slow_told(circle, policy, other)[member])
        self.assertNotEqual(slow_look(circle, (member,), run), slow_look(circle, (member,), other))
        rows = [Row(circle.book, slow_run(circle, one, (member,))[1]) for one in (run, other)]
        self.assertIs(paper is None, len(rows[0]) != len(rows[1]))
        if paper is not None:
            self.assertTrue(compare_holds(*rows, paper))


class RespectsTest(Checked):

    def test_room(self):
        self.assertEqual(self.check(ROOM, (), False)[4], None)
        self.assertEqual(self.check(ROOM, ((1, 0),), False)[1], 1)
        self.assertEqual(self.check(ROOM, ((0, 1),), True)[2], ())
        self.check(ROOM, ((0, 1), (1, 0)), True)
        self.assertIs(respects(circle=ROOM, policy=((0, 1),), most=6), True)
        self.assertEqual(judge_policy(circle=ROOM, policy=((0, 1),), most=6), judge_policy(ROOM, ((0, 1),)))

    def test_no_deeds_and_one_member(self):
        for firsts in (((), ()), (("K",), ("a", "a", ("lock", "s", "K")))):
            for policy in ((), ((0, 1),), ((0, 1), (1, 0))):
                still = Circle(STD, 2, 3, (), firsts)
                start = (0, tuple(tuple(sorted(set(things), key=str)) for things in firsts))
                worlds, cells = self.check(still, policy, True)[1:]
                self.assertEqual((len(worlds), worlds[0][0], cells), (1, 0, ()))
                self.assertEqual(len(start[1]), len(worlds[0][1]))
        alone = Circle(STD, 1, 2, (("ask", 0, None, ((1, ("K", (0,))), None)), ("bid", 0, "K", ((0, None), (0, ("L", (0,)))))), ((),))
        worlds, cells = self.check(alone, (), True)[1:]
        self.assertEqual((len(worlds), cells), (4, ()))

    def test_deeds_that_change_a_state_only(self):
        # What 0 does to the state, 1 sees by what is shown later, and 2 by what it does itself.
        def circle(other, members, owner):
            return Circle(STD, 3, 2, (("ask", owner, None, ((0, ("s", members)), (1, (other, members)))),
                                      ("go", 0, None, ((1, None), None))), ((), (), ()))
        for other in ("s", "t", "K"):
            for members in ((0,), (1,), (2,), (1, 2)):
                for owner in (0, 1, 2):
                    one = circle(other, members, owner)
                    # Ask is told to all who see it, by whoever does it.
                    policy = tuple(sorted({(owner, member) for member in members if member != owner}))
                    hidden = [member for member in members if member != 0 and (0, member) not in policy]
                    self.check(one, policy, other == "s" or not hidden)
                    self.check(one, ALL, True)
                    self.check(one, (), other == "s" and members == (owner,) or not hidden and members == (owner,))

    def test_what_is_passed_on(self):
        # 0 may tell 1, 1 may tell 2: what 0 did may come to 2, but by a deed of 1 alone.
        policy = ((0, 1), (1, 2))
        deeds = (("go", 0, None, ((1, None), (1, None))),
                 ("say", 1, None, ((0, ("s", (1, 2))), (1, ("t", (1, 2))))))
        self.check(Circle(STD, 3, 2, deeds, ((), (), ())), policy, True)
        self.check(Circle(STD, 3, 2, deeds, ((), (), ())), ((1, 2),), False)
        self.check(Circle(STD, 3, 2, deeds, ((), (), ())), ((0, 1),), False)
        self.check(Circle(STD, 3, 2, deeds, ((), (), ())), ((0, 2), (1, 2)), False)
        loud = (*deeds[:1], ("say", 2, None, deeds[1][3]))
        self.check(Circle(STD, 3, 2, loud, ((), (), ())), (*policy, (2, 1)), False)
        self.check(Circle(STD, 3, 2, loud, ((), (), ())), ((0, 1), (0, 2), (2, 1)), True)

    def test_what_shows_late(self):
        # What 0 did shows behind three more deeds alone, in their order.
        def deed(name, owner, table):
            return name, owner, None, tuple([table.get(state) for state in range(8)])
        deeds = (deed("a", 1, {0: (1, None), 4: (5, None)}), deed("b", 1, {1: (2, None), 5: (6, None)}),
                 deed("c", 1, {2: (3, None), 6: (7, None)}), deed("go", 0, {0: (4, None)}),
                 deed("say", 1, {3: (3, ("s", (1,))), 7: (7, ("t", (1,)))}))
        circle = Circle(STD, 2, 8, deeds, ((), ()))
        member, run, other, paper = self.check(circle, (), False)[1:]
        self.assertEqual((member, run[-3:], other[-3:]), (1, ("b", "c", "say"), ("b", "c", "say")))
        self.assertIsNotNone(paper)
        self.check(circle, ((0, 1),), True)

    def test_orders_of_deeds(self):
        # 2 may know what both do, but not which of them was first.
        policy = ((0, 2), (1, 2))
        def circle(first, second):
            return Circle(STD, 3, 3, (("ask", 0, None, ((1, None), None, None)), ("bid", 1, None, ((2, None), None, None)),
                                      ("cut", 2, None, (None, (1, (first, (2,))), (2, (second, (2,)))))), ((), (), ()))
        self.check(circle("s", "s"), policy, True)
        # 2 is told of both, each time, so the two orders tell it something else.
        self.check(circle("s", "t"), policy, True)
        self.check(circle("s", "t"), ((0, 2),), False)
        # Whoever is told of one of them alone, is told the same by both orders.
        pair = (("ask", 0, None, ((1, None), None, (3, None), None)), ("bid", 1, None, ((2, None), (4, None), None, None)))
        pair = tuple((name, owner, need, (*moves, None)) for name, owner, need, moves in pair)
        for third in ("s", "t"):
            show = ("cut", 0, None, (None, None, None, (3, ("s", (0,))), (4, (third, (0,)))))
            self.check(Circle(STD, 2, 5, (*pair, show), ((), ())), ((1, 0),), True)
            self.check(Circle(STD, 3, 5, (*pair, show), ((), (), ())), ((0, 2), (1, 2)), False)

    def test_what_looks_alike_is_respected(self):
        # 1 does not tell locks from one another, as long as it has no key for them.
        def circle(*firsts):
            return Circle(STD, 2, 2, (("ask", 1, None, ((0, (("lock", "s", "K"), (1,))), (1, (("lock", "t", "K"), (1,))))),
                                      ("go", 0, None, ((1, None), (0, None)))), firsts)
        self.check(circle(("K",), ()), (), False)
        once = (("ask", 1, None, ((2, (("lock", "s", "K"), (1,))), (2, (("lock", "t", "K"), (1,))), None)),
                ("go", 0, None, ((1, None), (0, None), None)))
        self.check(Circle(STD, 2, 3, once, (("K",), ())), (), True)
        self.check(Circle(STD, 2, 3, once, (("K",), ("K",))), (), False)
        self.check(Circle(STD, 2, 3, once, ((), (("pair", "a", "K"),))), (), False)
        self.check(Circle(STD, 2, 3, once, ((), (("lock", "a", "K"),))), (), True)
        self.check(Circle(STD, 2, 3, once, ((), (("lock", "s", "K"),))), (), False)

    def test_needs(self):
        # Whether bid is open hangs on what 0 did, and 1 sees it.
        deeds = (("ask", 0, None, ((0, ("K", (0,))),)), ("bid", 0, "K", ((0, ("s", (1,))),)))
        circle = Circle(STD, 2, 1, deeds, ((), ()))
        self.check(circle, ((0, 1),), True)
        self.check(circle, (), False)
        # A deed of 1 that needs what 0 showed it; 0 is told of it by the show alone.
        deeds = (("ask", 0, None, ((0, ("K", (1,))),)), ("bid", 1, "K", ((0, ("s", (2,))),)))
        circle = Circle(STD, 3, 1, deeds, ((), (), ()))
        self.check(circle, ((0, 1), (1, 2)), True)
        self.check(circle, ((0, 1), (0, 2)), False)

    def test_random_ones(self):
        rng = same_rng(171)
        told = {}
        for _ in range(900):
            circle = policy_circle(rng) if rng.random() < 0.8 else random_circle(rng, members=4, firsts=1)
            if len(slow_reached(circle)) > 14:
                continue
            policy = random_policy(rng, circle, rng.choice((0.2, 0.5, 0.8)))
            found = searched(circle, policy, 3)
            paper = self.check(circle, policy, False if found else None)
            if found is None and paper[0] == "shown":
                self.assertGreater(max(len(paper[2]), len(paper[3])), 3)
            sort = (paper[0], bool(paper[2])) if paper[0] == "respected" else (paper[0], paper[4] is None)
            told[sort] = told.get(sort, 0) + 1
        self.assertGreater(min(told.values()), 10, told)
        self.assertEqual(len(told), 4, told)

    def test_the_policy_of_all_pairs(self):
        # Then all are told all, so no two runs tell the same.
        rng = same_rng(172)
        for _ in range(25):
            circle = random_circle(rng)
            if len(slow_reached(circle)) < 30:
                pairs = tuple((one, other) for one in range(circle.members) for other in range(circle.members) if one != other)
                worlds, cells = self.check(circle, pairs, True)[1:]
                self.assertEqual((len(worlds), cells), (len(slow_reached(circle)), ()))

    def test_order_of_cells(self):
        rng = same_rng(173)
        most = 0
        for _ in range(60):
            circle = policy_circle(rng, states=4)
            if len(slow_reached(circle)) > 30:
                continue
            paper = judge_policy(circle, random_policy(rng, circle, 0.2))
            if paper[0] == "respected":
                keys = [way_key(cell) for cell in paper[2]]
                self.assertEqual(keys, sorted(keys))
                most = max(most, len(keys))
        self.assertGreaterEqual(most, 20)


class TooManyTest(unittest.TestCase):

    def test_too_many(self):
        for ask in (respects, judge_policy):
            for policy in ((), ((0, 1),)):
                for most in range(6):
                    with self.assertRaises(TooMany) as told:
                        ask(ROOM, policy, most)
                    self.assertEqual(told.exception.most, most)
                self.assertEqual(ask(ROOM, policy, 6), ask(ROOM, policy))
            moves = tuple([(min(at + 1, 200), ("K", (1,))) for at in range(201)])
            line = Circle(STD, 2, 201, (("go", 0, None, moves),), ((), ()))
            with self.assertRaises(TooMany) as told:
                ask(line, ())
            self.assertEqual(told.exception.most, 200)
            self.assertIn(ask(line, (), 202), (False, ("shown", 1, ("go",), (), None)))


if __name__ == "__main__":
    unittest.main()
