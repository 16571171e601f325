"""[23] [24]: policies, ears, what runs tell."""

import unittest

from circlekeep.circles import Circle
from circlekeep.policies import ears_of, is_policy, tell_alike
from helper import ROOM, STD, all_runs, any_values, random_circle, random_policy, same_rng, slow_told, variants

FOUR = Circle(STD, 4, 1, tuple([(name, at, None, ((0, None),)) for at, name in enumerate("abcd")]), ((),) * 4)


def one_step(circle, policy, member, run):
    """[24]: all runs into which a run becomes by one step of which the member does not hear, without those put in."""
    owners = {deed[0]: deed[1] for deed in circle.deeds}
    ears = {name: set(ears_of(circle, policy, owner)) for name, owner in owners.items()}

    def hears(heard, rest):
        for name in rest:
            if owners[name] in heard:
                heard = heard | ears[name]
        return member in heard

    for at, name in enumerate(run):
        if not hears(ears[name], run[at + 1:]):
            yield run[:at] + run[at + 1:]
        if at + 1 < len(run):
            other = run[at + 1]
            apart = owners[name] not in ears[other] and owners[other] not in ears[name]
            if apart and not hears(ears[name] & ears[other], run[at + 2:]):
                yield (*run[:at], other, name, *run[at + 2:])


class PolicyTest(unittest.TestCase):

    def test_any_value(self):
        for value in any_values():
            self.assertIs(is_policy(ROOM, value), isinstance(value, tuple) and value in ((), ((0, 1),)), value)
        self.assertIs(is_policy(circle=ROOM, thing=((0, 1), (1, 0))), True)

    def test_by_hand(self):
        for value in ((), ((0, 1),), ((1, 0),), ((0, 1), (0, 2), (1, 3), (3, 0), (3, 2))):
            self.assertIs(is_policy(FOUR, value), True, value)
        for value in (((0, 0),), ((0, 1), (0, 1)), ((0, 2), (0, 1)), ((1, 0), (0, 1)), ((0, 4),), ((4, 0),), ((-1, 0),), (0, 1),
                      ((0, 1, 2),), ((0,),), ([0, 1],), [(0, 1)], ((0, True),), ((False, 1),), ((0, None),), ((0, "1"),),
                      ((0, (1,)),), (None,), ("01",), {(0, 1): 1}):
            self.assertIs(is_policy(FOUR, value), False, value)
        for value in variants(((0, 1), (2, 0))):
            right = isinstance(value, tuple) and all(
                isinstance(pair, tuple) and len(pair) == 2 and all(type(part) is int and part in range(4) for part in pair)
                and pair[0] != pair[1] for pair in value)
            right = right and list(value) == sorted(set(value))
            self.assertIs(is_policy(FOUR, value), right, value)

    def test_ears(self):
        policy = ((0, 1), (0, 3), (1, 2), (3, 0))
        for member, ears in enumerate(((0, 1, 3), (1, 2), (2,), (0, 3))):
            self.assertEqual(ears_of(FOUR, policy, member), ears)
        self.assertEqual(ears_of(circle=FOUR, policy=(), member=2), (2,))
        self.assertEqual(ears_of(FOUR, ((1, 0),), 0), (0,))


class TellTest(unittest.TestCase):

    def test_by_hand(self):
        policy = ((0, 1), (1, 2))
        for run, other, member, wanted in (
                ((), (), 0, True), (("a",), (), 3, True), (("a",), (), 0, False), (("a",), (), 1, False), (("a",), (), 2, True),
                (("a", "b"), ("b",), 2, False), (("b", "a"), ("b",), 2, True), (("b", "a"), ("b",), 1, False),
                (("a", "d"), ("d", "a"), 0, True), (("a", "b"), ("b", "a"), 1, False), (("a", "b"), ("b", "a"), 0, True),
                (("a", "c"), ("c", "a"), 2, True), (("a", "c", "b"), ("c", "a", "b"), 2, True),
                (("c", "b"), ("b", "c"), 2, False), (("d", "d"), ("d",), 3, False), (("d", "d"), ("d",), 2, True),
                (("a", "a", "b"), ("a", "b"), 2, False), (("a", "b", "a"), ("a", "b"), 2, True)):
            self.assertIs(tell_alike(FOUR, policy, run, other, member), wanted, (run, other, member))
            self.assertIs(tell_alike(circle=FOUR, policy=policy, run=other, other=run, member=member), wanted)

    def test_deeds_that_are_not_open_count(self):
        # Hand is not open the second time.
        self.assertIs(tell_alike(ROOM, (), ("hand", "hand"), ("hand",), 0), False)
        self.assertIs(tell_alike(ROOM, (), ("hand", "hand"), ("hand",), 1), True)
        self.assertIs(tell_alike(ROOM, ((0, 1),), ("hand", "hand"), ("hand",), 1), False)

    def test_random_ones(self):
        rng = same_rng(141)
        alike = 0
        for _ in range(400):
            circle = random_circle(rng, members=4, deeds=4)
            if not circle.names:
                continue
            policy = random_policy(rng, circle)
            runs = [tuple(rng.choice(circle.names) for _ in range(rng.randint(0, 7))) for _ in range(2)]
            if rng.random() < 0.6:
                order = list(runs[0])
                rng.shuffle(order)
                runs[1] = tuple(order)
            one, other = (slow_told(circle, policy, run) for run in runs)
            for member in range(circle.members):
                wanted = one[member] == other[member]
                alike += wanted and runs[0] != runs[1]
                self.assertIs(tell_alike(circle, policy, runs[0], runs[1], member), wanted)
        self.assertGreater(alike, 100)

    def test_steps(self):
        rng = same_rng(142)
        for _ in range(25):
            circle = random_circle(rng, members=3, deeds=3)
            policy = random_policy(rng, circle)
            for member in range(circle.members):
                # By steps, each run becomes one of those that cannot become shorter, or less.
                runs = all_runs(circle, 4)
                lots = {run: {run} for run in runs}
                for run in runs:
                    for other in one_step(circle, policy, member, run):
                        self.assertIs(tell_alike(circle, policy, run, other, member), True, (run, other))
                        joined = lots[run] | lots[other]
                        for item in joined:
                            lots[item] = joined
                for run in rng.sample(runs, min(12, len(runs))):
                    for other in rng.sample(runs, min(12, len(runs))):
                        self.assertIs(tell_alike(circle, policy, run, other, member), other in lots[run], (run, other))

    def test_long_runs(self):
        policy = tuple((one, other) for one in range(4) for other in range(4) if one != other)
        run = tuple("abcd" * 15)
        self.assertIs(tell_alike(FOUR, policy, run, run, 0), True)
        self.assertIs(tell_alike(FOUR, policy, run, ("b", "a", *run[2:]), 3), False)
        self.assertIs(tell_alike(FOUR, policy[:-1], run, (*run[:-2], "d", "c"), 0), False)
        self.assertIs(tell_alike(FOUR, (), run, tuple("dcba" * 15), 2), True)
        self.assertIs(tell_alike(FOUR, policy, run, run[:-1], 0), False)


if __name__ == "__main__":
    unittest.main()
