"""Strategies and tables, which find papers of telling that are small: what they say of single mates."""

import unittest

from circlekeep.charts import Chart
from circlekeep.circles import Circle
from circlekeep.followers import first_core
from circlekeep.mates import follower_for
from circlekeep.strategies import Strategy
from circlekeep.telling import judge_telling
from helper import ROOM, STD, all_groups, like_circle, random_circle, same_rng, slow_reached


def begun(one, other, group):
    """A chart, a follower, and the numbers of the mates of the empty run."""
    chart = Chart(one, 200)
    follower = follower_for(chart.stage, Chart(other, 200).stage, group)
    return chart, follower, follower.mates_at_first(first_core(one, other, group, follower.cores))


def sights(chart, follower, place):
    """What is behind the open deeds of a world: places, and what the group sees."""
    for _, follow, show in chart.onward[place]:
        members = () if show is None else tuple(at for at in follower.group if at in show[1])
        yield follow, (show[0], members) if members else None


def slow_won(chart, follower, mates):
    """All pairs that can come up, and those of them whose mate follows whatever is done: the greatest such set."""
    answers = {}
    waiting = [(0, mate) for mate in mates]
    while waiting:
        pair = waiting.pop()
        if pair not in answers:
            rested = follower.rested([pair[1]])
            answers[pair] = [{(follow, mate) for mate in (follower.moved(rested, sight) if sight else rested)}
                             for follow, sight in sights(chart, follower, pair[0])]
            waiting.extend(other for behind in answers[pair] for other in behind)
    won = set(answers)
    while True:
        fewer = {pair for pair in won if all(behind & won for behind in answers[pair])}
        if fewer == won:
            return list(answers), won
        won = fewer


class StrategyTest(unittest.TestCase):

    def test_random_ones(self):
        rng = same_rng(161)
        told = {True: 0, False: 0}
        for _ in range(150):
            one = random_circle(rng, members=2, firsts=1, deeds=4)
            other = like_circle(rng, one)
            if max(len(slow_reached(one)), len(slow_reached(other))) > 40:
                continue
            for group in all_groups(one):
                chart, follower, mates = begun(one, other, group)
                pairs, won = slow_won(chart, follower, mates)
                rng.shuffle(pairs)
                strategy = Strategy(chart, follower, ())
                for pair in pairs:
                    told[pair in won] += 1
                    self.assertIs(strategy.is_won(*pair), pair in won)
                self.check_answers(strategy, list(won))
        self.assertGreater(min(told.values()), 200)

    def check_answers(self, strategy, won):
        found = strategy.pairs_from(won)
        self.assertEqual(set(found), set(won))
        for place, mate in found:
            behind = list(sights(strategy.chart, strategy.follower, place))
            answers = strategy.answers[place, mate]
            self.assertEqual([follow for follow, _ in answers], [follow for follow, _ in behind])
            for (_, sight), (_, answer) in zip(behind, answers):
                rested = strategy.follower.rested([mate])
                self.assertIn(answer, strategy.follower.moved(rested, sight) if sight else rested)

    def test_only_what_answers_is_looked_at(self):
        deeds = tuple((word, 0, None, ((0, (name, (0,))),)) for word, name in zip("abcdef", "ABCDEF"))
        circle = Circle(STD, 1, 1, deeds, ((),))
        chart, follower, mates = begun(circle, circle, (0,))
        strategy = Strategy(chart, follower, ())
        self.assertIs(strategy.is_won(0, mates[0]), True)
        self.assertEqual((len(strategy.answers), len(strategy.lost)), (64, 0))


class TableTest(unittest.TestCase):

    def test_one_mate_for_each_world(self):
        rng = same_rng(162)
        for circle in [ROOM, *[random_circle(rng, members=3, deeds=4) for _ in range(40)]]:
            many = len(slow_reached(circle))
            if many > 60:
                continue
            for other in (circle, circle.renamed((("K", "X"),))):
                for group in all_groups(circle):
                    word, cells = judge_telling(circle, other, group)
                    self.assertEqual((word, len(cells)), ("covered", many))
                    self.assertEqual({len(mates) for _, mates in cells}, {1})


if __name__ == "__main__":
    unittest.main()
