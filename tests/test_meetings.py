"""Meetings, which find first runs from both their ends: what they say where they begin at the end at once."""

import unittest
from unittest import mock

from circlekeep import meetings
from circlekeep.circles import Circle
from circlekeep.images import Images, bits_of, numbers_in
from circlekeep.learning import first_learning
from circlekeep.mates import matched
from circlekeep.meetings import Ends
from circlekeep.paths import Paths
from circlekeep.telling import first_telling
from helper import STD, all_groups, all_runs, like_circle, random_circle, same_rng, slow_reached


def searched(one, other, group, states):
    """The first run all of whose mates are in some states, None if there is none, by all sets of mates of runs."""
    chart, follower, first = matched(one, other, group, 200)
    begun = bits_of(follower.mates_at_first(first))
    paths = Paths(chart, follower, ())
    waiting = [(0, begun, ())]
    known = {(0, begun)}
    while waiting:
        cell = waiting.pop(0)
        if all(follower.mates[number][0][0] in states for number in numbers_in(cell[1])):
            return cell[2]
        for follow in paths.cells_behind(cell):
            if follow[:2] not in known:
                known.add(follow[:2])
                waiting.append(follow)
    return None


class ImagesTest(unittest.TestCase):

    def test_sets(self):
        for numbers in ([], [0], [1], [0, 1, 5], [3, 64, 65, 1000]):
            self.assertEqual(numbers_in(bits_of(numbers)), numbers)

    def test_images(self):
        rng = same_rng(221)
        for _ in range(40):
            one = random_circle(rng, members=2, firsts=1)
            if len(slow_reached(one)) > 20:
                continue
            for group in all_groups(one):
                _, follower, first = matched(one, one, group, 200)
                mates = follower.mates_at_first(first)
                images = Images(follower)
                for world, show in [(world, show) for world, core in follower.mates for _, _, show in follower.ends_at(world)]:
                    wanted = mates if show is None else follower.moved(mates, show)
                    self.assertEqual(tuple(numbers_in(images.image(bits_of(mates), show))), wanted)


class MeetingTest(unittest.TestCase):

    def test_all_from_both_ends(self):
        rng = same_rng(222)
        told = {}
        for _ in range(900):
            names = rng.sample(("K", "L", "M"), 3)
            one = random_circle(rng, members=2, firsts=1, deeds=4, pool=names if rng.random() < 0.5 else ("K", "L", "s", ("lock", "s", "K")))
            other = like_circle(rng, one)
            if max(len(slow_reached(one)), len(slow_reached(other))) > 12:
                continue
            for group in all_groups(one):
                states = tuple(sorted(rng.sample(range(one.states), rng.randint(0, one.states - 1))))
                for ask, circles, among in ((first_learning, (one, one), states), (first_telling, (one, other), ())):
                    wanted = searched(*circles, group, among)
                    arguments = (one, group, states) if ask == first_learning else (one, other, group)
                    for few in (0, 1, 3, 100):
                        with mock.patch.object(meetings, "FEW", few):
                            self.assertEqual(ask(*arguments), wanted)
                    key = None if wanted is None else min(len(wanted), 3)
                    told[key] = told.get(key, 0) + 1
        self.assertGreater(min(told.values()), 8, told)
        self.assertEqual(set(told), {None, 0, 1, 2, 3})

    def test_long_ones(self):
        rng = same_rng(223)
        lengths = []
        while len(lengths) < 40:
            def move():
                return rng.randrange(2), (rng.choice("KLM"), (0,)) if rng.random() < 0.8 else None
            circle = Circle(STD, 1, 2, tuple([(word, 0, None, (move(), move())) for word in "abc"]), ((),))
            wanted = searched(circle, circle, (0,), (1,))
            if wanted is not None and len(wanted) > 2:
                for few in (0, 2, 100):
                    with mock.patch.object(meetings, "FEW", few):
                        self.assertEqual(first_learning(circle, (0,), (1,)), wanted)
                lengths.append(len(wanted))
        self.assertGreater(max(lengths), 5)


class EndsTest(unittest.TestCase):

    def test_ends(self):
        # Whatever set of mates there is at a world, a run leads it into the states just if the set is within an end.
        rng = same_rng(224)
        told = {True: 0, False: 0}
        for _ in range(60):
            circle = random_circle(rng, members=2, firsts=1, deeds=3, pool=("K", "L", "s"))
            if len(slow_reached(circle)) > 10 or not circle.names:
                continue
            group = rng.choice(all_groups(circle))
            states = tuple(sorted(rng.sample(range(circle.states), rng.randint(0, circle.states))))
            chart, follower, first = matched(circle, circle, group, 200)
            paths = Paths(chart, follower, states)
            ends = Ends(paths, paths.first_cell(first))
            for many in range(3):
                for place, numbers in ends.mates.items():
                    for _ in range(4):
                        chosen = [number for number in numbers if rng.random() < 0.4]
                        wanted = any(self.is_lost(paths, follower, (place, bits_of(chosen), ()), run, states)
                                     for run in all_runs(circle, many) if len(run) == many)
                        told[wanted] += 1
                        if chosen:
                            self.assertIs(ends.is_end((place, bits_of(chosen), ()), many), wanted)
                ends.step_back()
        self.assertGreater(min(told.values()), 300, told)

    def is_lost(self, paths, follower, cell, run, states):
        """Whether all of a cell's mates are in the states behind a run of deeds that are open."""
        for name in run:
            behind = [follow for follow in paths.cells_behind(cell) if follow[2][-1] == name]
            if not behind:
                return False
            cell = behind[0]
        return all(follower.mates[number][0][0] in states for number in numbers_in(cell[1]))


if __name__ == "__main__":
    unittest.main()
