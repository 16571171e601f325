"""[35] and the words of [4] to [33]: the examples."""

import unittest

from circlekeep.circles import Circle
from circlekeep.having import basis, is_had
from circlekeep.keeping import first_run, holders, keeps
from circlekeep.knowing import knows, possible_states
from circlekeep.likeness import compare, compare_holds, is_alike
from circlekeep.mates import mates_behind
from circlekeep.mends import least_left_out
from circlekeep.pairlots import core_of, pair_lot
from circlekeep.policies import tell_alike
from circlekeep.respectchecks import policy_holds
from circlekeep.respecting import judge_policy, respects
from circlekeep.rows import Row
from circlekeep.runs import after, seen
from circlekeep.shares import shares_of
from circlekeep.telling import are_alike_for, first_telling
from circlekeep.worlds import start_of, worlds_of
from helper import ROOM, STD, TWO


def row(*things):
    return Row(STD, things)


S_LOCKED = ("lock", "s", "K")
T_LOCKED = ("lock", "t", "K")
U_LOCKED = ("lock", "u", "K")


class RoomTest(unittest.TestCase):
    """What member 1 sees in the circle ROOM."""

    def test_locked_words_look_alike_without_the_key(self):
        # Behind post and behind hand it saw one thing that it cannot open.
        self.assertTrue(is_alike(row(S_LOCKED), row("K")))
        self.assertTrue(is_alike(row(S_LOCKED), row(T_LOCKED)))

    def test_with_the_key_the_words_are_known(self):
        # Behind hand and post it can open the second thing by the first one.
        self.assertFalse(is_alike(row("K", S_LOCKED), row("K", T_LOCKED)))
        self.assertFalse(is_alike(row("K", T_LOCKED), row(S_LOCKED, S_LOCKED)))
        self.assertTrue(is_had(row("K", T_LOCKED), "t"))

    def test_another_word_in_the_locks(self):
        # The circle TWO: behind post and hand the first thing opened is s, in TWO it is u.
        self.assertTrue(is_alike(row(S_LOCKED), row(U_LOCKED)))
        self.assertFalse(is_alike(row(S_LOCKED, "K"), row(U_LOCKED, "K")))
        paper = compare(row(S_LOCKED, "K"), row(U_LOCKED, "K"))
        self.assertEqual(paper[0], "same")
        self.assertTrue(compare_holds(row(S_LOCKED, "K"), row(U_LOCKED, "K"), paper))

    def test_member_0_has_the_key_all_along(self):
        self.assertFalse(is_alike(row("K", S_LOCKED), row("K", U_LOCKED)))


class SharesTest(unittest.TestCase):

    def test_shares_of_the_example(self):
        shares = (("lock", ("lock", "S", "K0"), "K1"), ("lock", "S", "K2"))
        for keys, wanted in ((("K0", "K1"), True), (("K2",), True), (("K0",), False), (("K1",), False), ((), False)):
            self.assertEqual(is_had(row(*keys, *shares), "S"), wanted)
            if not wanted:
                self.assertTrue(is_alike(row(*keys, *shares), row(*keys, *shares).replaced("S", "Z")))
        self.assertTrue(is_had(row("K0", "K1", *shares), "S"))


class WordsOfTheDocumentTest(unittest.TestCase):

    def test_what_is_made_is_not_basic(self):
        locked = ("lock", "a", "K")
        self.assertNotIn(locked, basis(row(locked, "K")))
        self.assertIn(locked, basis(row(locked)))

    def test_core_of_rows_however_long(self):
        one = row(*[S_LOCKED, "L", "a"] * 4)
        other = row(*["M", U_LOCKED, "a"] * 4)
        self.assertEqual(core_of(STD, pair_lot(one, other)), (("L", U_LOCKED), (S_LOCKED, "M")))


class CircleTest(unittest.TestCase):
    """What is done in the circle ROOM."""

    def test_worlds_and_runs(self):
        self.assertEqual(start_of(ROOM), (0, (("K",), ())))
        self.assertEqual(after(ROOM, ("post", "hand")), (1, (("K", S_LOCKED), ("K", S_LOCKED))))
        self.assertEqual(seen(ROOM, ("post", "hand"), (1,)).things, (S_LOCKED, "K"))
        self.assertEqual(len(worlds_of(ROOM)), 6)

    def test_keeping(self):
        self.assertIs(keeps(ROOM, (1,), "K"), False)
        self.assertEqual(first_run(ROOM, (1,), "K"), ("hand",))
        self.assertEqual(holders(ROOM, "K"), ((0,), (1,)))

    def test_telling(self):
        self.assertEqual(TWO, Circle.read(str(ROOM).replace("lock(s,K)", "lock(u,K)")))
        self.assertIs(are_alike_for(ROOM, TWO, (1,)), False)
        self.assertEqual(first_telling(ROOM, TWO, (1,)), ("post", "hand"))

    def test_states_that_are_possible(self):
        # Behind post member 1 saw one thing that it cannot open; behind hand it has seen the name K instead.
        self.assertEqual(possible_states(ROOM, (1,), ("post",)), (0, 1))
        self.assertIs(knows(ROOM, (1,), ("hand", "post"), (1,)), True)
        self.assertEqual([world[0] for world, _ in mates_behind(ROOM, ROOM, (1,), ("post",))], [0, 1])
        self.assertEqual([world[0] for world, _ in mates_behind(ROOM, ROOM, (1,), ("hand", "post"))], [1])

    def test_mends(self):
        self.assertEqual(least_left_out(ROOM, (1,), "K"), ((("hand", 0),),))

    def test_policy(self):
        # Post is a deed of member 0, of which nothing is told to member 1; but it sees something.
        self.assertIs(tell_alike(ROOM, (), (), ("post",), 1), True)
        self.assertNotEqual(len(seen(ROOM, (), (1,))), len(seen(ROOM, ("post",), (1,))))
        self.assertIs(respects(ROOM, ()), False)
        self.assertIs(policy_holds(ROOM, (), ("shown", 1, (), ("post",), None)), True)
        self.assertIs(policy_holds(ROOM, (), judge_policy(ROOM, ())), True)

    def test_shares(self):
        self.assertEqual(shares_of("S", ((0, 1), (2,)), ("K0", "K1", "K2")),
                         (("lock", ("lock", "S", "K0"), "K1"), ("lock", "S", "K2")))


if __name__ == "__main__":
    unittest.main()
