"""[26]: which states are possible, what groups know, and what they know that others know."""

import unittest

from circlekeep.circles import Circle
from circlekeep.errors import TooMany
from circlekeep.knowing import knows, knows_that, possible_states
from circlekeep.runs import after
from helper import (ROOM, STD, all_groups, all_runs, random_circle, same_rng, slow_core, slow_look, slow_mates, slow_reached,
                    slow_run, slow_sights, slow_start, slow_step)

LOCK = ("lock", "s", "K")


def searched(circle, group, most):
    """For each run of at most so many deeds the states of those that look alike, as far as these are as short."""
    looks = {run: slow_look(circle, group, run) for run in all_runs(circle, most)}
    states = {}
    for run, look in looks.items():
        states.setdefault(look, set()).add(slow_run(circle, run, group)[0][0])
    return {run: states[look] for run, look in looks.items()}, looks


def members_of(show, group):
    return () if show is None else tuple(at for at in group if at in show[1])


def grown(circle, core, thing, other):
    """[14]: the core with one pair more, None if it is not even."""
    return slow_core(circle.book, [pair[0] for pair in core] + [thing], [pair[1] for pair in core] + [other])


def slow_views(circle, group, further, run):
    """[26]: the states that further holds possible behind a run that group holds possible, step by step."""
    things, told, many = slow_sights(circle, run, group)
    firsts = slow_sights(circle, (), further)[0]
    start = slow_start(circle)
    waiting = [(many, start, slow_core(circle.book, things[:many], things[:many]), start, slow_core(circle.book, firsts, firsts))]
    found = set(waiting)
    while waiting:
        for state in slow_behind(circle, group, further, things, told, waiting.pop()):
            if state not in found:
                found.add(state)
                waiting.append(state)
    return {other[0] for at, _, _, other, _ in found if at == len(things)}


def slow_behind(circle, group, further, things, told, state):
    """All that can be done next: by the run that group holds possible, or by the one that further holds possible then."""
    at, world, core, other, inner = state
    for name in circle.names:
        follow, show, done = slow_step(circle, other, name)
        if done and not members_of(show, further):
            yield at, world, core, follow, inner
    for name in circle.names:
        follow, show, done = slow_step(circle, world, name)
        place, outer = at, core
        if members_of(show, group):
            if at == len(things) or told[at] != members_of(show, group):
                continue
            place, outer = at + 1, grown(circle, core, things[at], show[0])
        if not done or outer is None:
            continue
        if not members_of(show, further):
            yield place, follow, outer, other, inner
            continue
        for name in circle.names:
            behind, seen, _ = slow_step(circle, other, name)
            if members_of(seen, further) == members_of(show, further):
                joined = grown(circle, inner, show[0], seen[0])
                if joined is not None:
                    yield place, follow, outer, behind, joined


class PossibleTest(unittest.TestCase):

    def check(self, circle, group, run, wanted):
        self.assertEqual(possible_states(circle, group, run), wanted)
        for states in (wanted, (), tuple(range(circle.states)), wanted[1:], wanted[:-1], (wanted[0],), (wanted[-1],)):
            self.assertIs(knows(circle, group, run, states), set(wanted) <= set(states))

    def test_room(self):
        self.check(ROOM, (1,), (), (0,))
        self.check(ROOM, (1,), ("post",), (0, 1))
        self.check(ROOM, (1,), ("hand",), (0, 1))
        self.check(ROOM, (1,), ("hand", "hand"), (0, 1))
        self.check(ROOM, (1,), ("hand", "post"), (1,))
        self.check(ROOM, (1,), ("post", "hand"), (1,))
        self.check(ROOM, (1,), ("post", "post"), (0,))
        # The same lock twice may also be K and a lock that K opens, but never anything else.
        self.check(ROOM, (0,), (), (0, 1))
        self.check(ROOM, (0,), ("post",), (0, 1))
        self.check(ROOM, (0,), ("hand", "post"), (1,))
        self.check(ROOM, (0, 1), ("hand",), (1,))
        self.check(ROOM, (0, 1), ("post",), (0,))
        self.assertEqual(possible_states(circle=ROOM, group=(1,), run=("post",), most=6), (0, 1))
        self.assertIs(knows(circle=ROOM, group=(1,), run=("post",), states=(0,), most=6), False)

    def test_who_sees_nothing_and_who_sees_all(self):
        deeds = (("ask", 0, None, ((1, ("s", (0, 1))), (2, ("t", (0, 1))), None, (0, None))),
                 ("bid", 1, "N", ((3, ("s", (0,))),) * 4))
        circle = Circle(STD, 3, 4, deeds, ((), (), ()))
        for run in all_runs(circle, 3):
            # The state 3 is never reached, as bid is not open.
            self.check(circle, (2,), run, (0, 1, 2))
            state = min(run.count("ask"), 2)
            for group in ((0,), (1,), (0, 1), (0, 2), (0, 1, 2)):
                self.check(circle, group, run, (state,))

    def test_no_deeds(self):
        for group in ((0,), (1,), (0, 1)):
            self.check(Circle(STD, 2, 3, (), (("K", "K"), ("a",))), group, (), (0,))

    def test_the_state_in_which_it_ends(self):
        rng = same_rng(191)
        most = 0
        for _ in range(100):
            circle = random_circle(rng, members=3, deeds=4)
            if len(slow_reached(circle)) > 40:
                continue
            for group in all_groups(circle):
                for run in rng.sample(all_runs(circle, 3), min(6, len(all_runs(circle, 3)))):
                    found = possible_states(circle, group, run)
                    self.assertIn(after(circle, run)[0], found)
                    self.assertEqual(list(found), sorted({world[0] for world, _ in slow_mates(circle, circle, group, run)}))
                    most = max(most, len(found))
        self.assertEqual(most, 3)

    def test_all_runs_up_to_a_length(self):
        rng = same_rng(192)
        told = {True: 0, False: 0}
        for _ in range(60):
            circle = random_circle(rng, members=2, deeds=3)
            for group in all_groups(circle):
                states, _ = searched(circle, group, 4)
                for run in rng.sample(all_runs(circle, 2), min(6, len(all_runs(circle, 2)))):
                    found = possible_states(circle, group, run)
                    self.assertLessEqual(states[run], set(found))
                    # There are at most 3 states, and a run to one that is longer by three deeds is rare.
                    told[states[run] == set(found)] += 1
                    among = tuple(sorted(rng.sample(range(circle.states), rng.randint(0, circle.states))))
                    self.assertIs(knows(circle, group, run, among), set(found) <= set(among))
        self.assertGreater(told[True], 50 * told[False])

    def test_long_runs(self):
        self.assertEqual(possible_states(ROOM, (1,), ("post", "hand") * 30), (1,))
        self.assertEqual(possible_states(ROOM, (1,), ("post",) * 60), (0,))
        self.assertEqual(possible_states(ROOM, (0,), ("hand",) * 60), (0, 1))


class KnowsThatTest(unittest.TestCase):

    def check(self, circle, group, further, run, views):
        """The states that further holds possible behind runs that group holds possible being these."""
        self.assertEqual(slow_views(circle, group, further, run), set(views))
        for states in (views, (), tuple(range(circle.states)), views[1:], views[:-1]):
            self.assertIs(knows_that(circle, group, further, run, states), set(views) <= set(states))

    def test_room(self):
        self.check(ROOM, (1,), (1,), ("post",), (0, 1))
        self.check(ROOM, (0,), (1,), ("hand", "post"), (1,))
        self.check(ROOM, (0,), (1,), ("post",), (0, 1))
        self.check(ROOM, (0,), (1,), ("post", "post"), (0, 1))
        self.check(ROOM, (1,), (0,), ("hand", "post"), (1,))
        self.check(ROOM, (1,), (0,), ("hand",), (0, 1))
        self.check(ROOM, (0, 1), (1,), ("post",), (0, 1))
        self.check(ROOM, (0, 1), (0,), ("hand",), (0, 1))
        self.check(ROOM, (1,), (0, 1), ("hand", "post"), (1,))
        self.assertIs(knows_that(circle=ROOM, group=(0,), further=(1,), run=("hand", "post"), states=(1,), most=6), True)

    def test_a_group_and_itself(self):
        # What it knows it knows that it knows.
        rng = same_rng(193)
        for _ in range(60):
            circle = random_circle(rng, members=3)
            if len(slow_reached(circle)) > 20:
                continue
            for group in all_groups(circle):
                for run in rng.sample(all_runs(circle, 2), min(4, len(all_runs(circle, 2)))):
                    found = possible_states(circle, group, run)
                    for states in (found, found[1:], found[:-1], (), tuple(range(circle.states))):
                        self.assertIs(knows_that(circle, group, group, run, states), set(found) <= set(states))

    def test_who_sees_nothing(self):
        deeds = (("ask", 0, None, ((1, ("s", (0,))), (2, ("t", (0, 1))), (0, ("s", (1,))))),)
        circle = Circle(STD, 3, 3, deeds, ((), (), ()))
        for run in all_runs(circle, 4):
            for group in ((0,), (1,), (0, 1), (2,)):
                self.check(circle, (2,), group, run, (0, 1, 2))
                self.check(circle, group, (2,), run, (0, 1, 2))
        # 0 sees s and t, and cannot tell whether 1 saw the next one.
        self.check(circle, (0,), (1,), ("ask", "ask"), (0, 1, 2))
        self.check(circle, (0,), (0,), ("ask", "ask"), (0, 2))
        self.check(circle, (1,), (0,), ("ask", "ask"), (0, 2))
        self.check(circle, (1,), (0, 1), ("ask", "ask"), (2,))

    def test_random_ones(self):
        rng = same_rng(194)
        told = {True: 0, False: 0}
        short = 0
        for _ in range(120):
            circle = random_circle(rng, members=3, firsts=1, deeds=4)
            if len(slow_reached(circle)) > 12:
                continue
            group, further = rng.choice(all_groups(circle)), rng.choice(all_groups(circle))
            _, looks = searched(circle, group, 3)
            states, _ = searched(circle, further, 3)
            for run in rng.sample(all_runs(circle, 2), min(5, len(all_runs(circle, 2)))):
                views = slow_views(circle, group, further, run)
                seen = {state for other, look in looks.items() if look == looks[run] for state in states[other]}
                self.assertLessEqual(seen, views)
                short += seen != views
                self.assertLessEqual(set(possible_states(circle, group, run)), views)
                for among in (tuple(sorted(views)), tuple(sorted(views))[1:], *[tuple(sorted(rng.sample(range(circle.states), many)))
                                                                                for many in range(circle.states + 1)]):
                    told[views <= set(among)] += 1
                    self.assertIs(knows_that(circle, group, further, run, among), views <= set(among))
        self.assertGreater(min(told.values()), 300, told)
        self.assertLess(short, 30)


class TooManyTest(unittest.TestCase):

    def test_too_many(self):
        asks = (lambda circle, *most: possible_states(circle, (1,), ("post",), *most),
                lambda circle, *most: knows(circle, (1,), ("post",), (0,), *most),
                lambda circle, *most: knows_that(circle, (1,), (0,), ("post",), (0, 1), *most))
        moves = tuple([(min(at + 1, 200), None) for at in range(201)])
        line = Circle(STD, 2, 201, (("post", 0, None, moves),), ((), ()))
        for ask in asks:
            for most in range(6):
                with self.assertRaises(TooMany) as told:
                    ask(ROOM, most)
                self.assertEqual(told.exception.most, most)
            self.assertEqual(ask(ROOM, 6), ask(ROOM))
            with self.assertRaises(TooMany) as told:
                ask(line)
            self.assertEqual(told.exception.most, 200)
            self.assertIn(ask(line, 201), (tuple(range(201)), False))
        # It is the same where nothing has to be looked at.
        for ask in (lambda: knows(ROOM, (0,), (), (0, 1), 5), lambda: knows_that(ROOM, (0,), (0,), (), (0, 1), 5)):
            with self.assertRaises(TooMany):
                ask()


if __name__ == "__main__":
    unittest.main()
