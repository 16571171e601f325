"""Respecting: whether what members do reaches those alone who may be told."""

from circlekeep.byways import Byways, is_plain
from circlekeep.charts import Chart
from circlekeep.likeness import compare
from circlekeep.runs import seen


class Survey:
    """All byways of a circle that a policy asks for, as long as both ways look alike.

    Of each byway, origins has how it came up first: the number of the byway ahead of it and the deed, or None and
    the two runs.
    """

    def __init__(self, chart, policy):
        self.chart = chart
        self.byways = Byways(chart.stage, policy)
        self.found = []
        self.origins = []
        self.known = {}

    def note(self, byway, origin):
        """Note a byway and how it came up, if it is a new one that is needed."""
        if byway not in self.known and not is_plain(byway):
            self.known[byway] = True
            self.found.append(byway)
            self.origins.append(origin)

    def explore(self):
        """(member, run, other): two runs that tell a member the same and look unlike to it; None if there are none."""
        unlike = self.begin()
        number = 0
        while unlike is None and number < len(self.found):
            unlike = self.look_on(number)
            number += 1
        return unlike

    def begin(self):
        """Note all beginnings; tells two runs as explore does, if a member sees them differ at once."""
        for world, run in zip(self.chart.worlds, self.chart.runs):
            number = self.byways.number_of(world)
            for member, splits in enumerate(self.byways.splits):
                for split in splits:
                    origin = (None, ((*run, *split[0]), (*run, *split[1])))
                    byway = self.byways.begun(member, number, split)
                    if byway is None:
                        return member, *origin[1]
                    self.note(byway, origin)
        return None

    def look_on(self, number):
        """Note the byways behind the one with a number; tells two runs as explore does, if the member tells them."""
        byway = self.found[number]
        for name in self.chart.stage.circle.names:
            if not self.byways.hears(byway, name):
                follow = self.byways.followed(byway, name)
                if follow is None:
                    run, other = self.runs_to(number)
                    return byway[0], (*run, name), (*other, name)
                self.note(follow, (number, name))
        return None

    def runs_to(self, number):
        """The two runs to the byway with a number."""
        names = []
        ahead, told = self.origins[number]
        while ahead is not None:
            names.append(told)
            ahead, told = self.origins[ahead]
        return (*told[0], *names[::-1]), (*told[1], *names[::-1])

    def told_cells(self):
        """The cells of all byways, in order."""
        worlds = self.byways.spots
        told = sorted([(byway[0], worlds[byway[1]], worlds[byway[2]], *byway[3:]) for byway in self.found])
        made = {world: self.chart.stage.world_at(world) for world in worlds}
        cores = {byway[3]: self.byways.cores.core_at(byway[3]) for byway in self.found}
        return tuple([(member, made[one], made[other], cores[core], heard) for member, one, other, core, heard in told])


def respects(circle, policy, most=200):
    """Whether a policy is respected; raises TooMany."""
    return Survey(Chart(circle, most), policy).explore() is None


def judge_policy(circle, policy, most=200):
    """A paper that a policy is respected, or that it is not; raises TooMany."""
    survey = Survey(Chart(circle, most), policy)
    unlike = survey.explore()
    if unlike is None:
        worlds = tuple([survey.chart.stage.world_at(told) for told in sorted(survey.chart.worlds)])
        return "respected", worlds, survey.told_cells()
    member, run, other = unlike
    one = seen(circle, run, (member,))
    two = seen(circle, other, (member,))
    return "shown", member, run, other, compare(one, two) if len(one) == len(two) else None
