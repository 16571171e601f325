"""[18]: shares of a secret name."""

import itertools
import unittest

from circlekeep.circles import Circle
from circlekeep.keeping import keeps
from circlekeep.likeness import is_alike
from circlekeep.runs import seen
from circlekeep.shares import dealt, shares_of
from helper import STD, all_groups, same_rng

KEYS = ("K0", "K1", "K2", "K3")


class SharesTest(unittest.TestCase):

    def test_by_hand(self):
        self.assertEqual(shares_of("S", ((0, 1), (2,)), ("K0", "K1", "K2")),
                         (("lock", ("lock", "S", "K0"), "K1"), ("lock", "S", "K2")))
        self.assertEqual(shares_of(name="S", groups=(), keys=("A",)), ())
        self.assertEqual(shares_of("S", ((0,), (0,)), ("A",)), (("lock", "S", "A"),) * 2)
        self.assertEqual(shares_of("S", ((0, 2, 3),), ("D", "C", "B", "A")),
                         (("lock", ("lock", ("lock", "S", "D"), "B"), "A"),))

    def test_dealt(self):
        made = dealt(name="S", groups=((0, 1), (1,), (0, 1)), keys=("A", "B"))
        both = ("lock", ("lock", "S", "A"), "B")
        one = ("lock", "S", "B")
        self.assertEqual(made, Circle(STD, 2, 1, (), (("A", both, one, both), ("B", both, one, both))))
        self.assertEqual(dealt("S", (), ("A",)), Circle(STD, 1, 1, (), (("A",),)))

    def test_who_has_the_name(self):
        rng = same_rng(101)
        for members in range(1, 5):
            keys = KEYS[:members]
            groups = [group for size in range(1, members + 1) for group in itertools.combinations(range(members), size)]
            for _ in range(12):
                dealt_to = tuple(rng.choice(groups) for _ in range(rng.randint(0, 4)))
                made = dealt("S", dealt_to, keys)
                for group in all_groups(made):
                    wanted = any(set(other) <= set(group) for other in dealt_to)
                    self.assertIs(keeps(made, group, "S"), not wanted)
                    row = seen(made, (), group)
                    if not wanted:
                        self.assertTrue(is_alike(row, row.replaced("S", "Z")))


if __name__ == "__main__":
    unittest.main()
