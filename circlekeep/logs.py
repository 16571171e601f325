"""Logs: rows of things that were seen, and the runs that they fit."""

from circlekeep.charts import Chart
from circlekeep.cores import Cores
from circlekeep.errors import Mismatch
from circlekeep.followers import Follower
from circlekeep.runs import first_row, first_seers


class Log:
    """A row of things with its seers, and a follower that looks for runs of a circle that they fit.

    Sights has what is seen behind the firsts; first is the told core of the firsts, None if these do not fit.
    """

    def __init__(self, stage, group, row, seers):
        firsts = first_row(stage.circle, group).things
        many = len(firsts)
        cores = Cores([stage])
        told = cores.told_pairs(list(zip(row.things, row.things)))
        self.sights = [(text, members) for (text, _), members in list(zip(told, seers))[many:]]
        self.follower = Follower(stage, group, cores)
        self.first = None
        if seers[:many] == tuple(first_seers(stage.circle, group)):
            self.first = cores.core_of_pairs(cores.told_pairs(list(zip(row.things, firsts))))

    def spots_behind(self, spot):
        """What can come next of a spot: how many sights there were, the told world, the told core; each with a name."""
        many, world, core = spot
        found = []
        for name, follow, seen in self.follower.ends_at(world):
            further = many if seen is None else many + 1
            grown = core if seen is None else self.follower.grown_core(core, self.sights[many], seen)
            if grown is not None:
                found.append((name, (further, follow, grown)))
        return found

    def first_run(self):
        """The first run that the row and its seers fit, None if there is none."""
        if self.first is None:
            return None
        waiting = [(0, self.follower.stage.start, self.first)]
        runs = {waiting[0]: ()}
        number = 0
        while number < len(waiting):
            # In the order of the runs, so what is found first has the first run.
            spot = waiting[number]
            if spot[0] == len(self.sights):
                return runs[spot]
            for name, further in self.spots_behind(spot):
                if further not in runs:
                    runs[further] = (*runs[spot], name)
                    waiting.append(further)
            number += 1
        return None

    def end_states(self):
        """The ascending tuple of the states in which runs end that the row and its seers fit."""
        return self.follower.states_of(self.follower.mates_along(self.first, self.sights))


def log_of(circle, group, row, seers, most):
    """The log for a row and its seers; raises TooMany, and Mismatch behind it."""
    stage = Chart(circle, most).stage
    if row.book != circle.book:
        raise Mismatch("book")
    return Log(stage, group, row, seers)


def first_fitting(circle, group, row, seers, most=200):
    """The first run that a row and its seers fit, None if there is none; raises TooMany, and Mismatch behind it."""
    return log_of(circle, group, row, seers, most).first_run()


def ends_fitting(circle, group, row, seers, most=200):
    """The ascending tuple of the states in which runs that a row and its seers fit end; raises as first_fitting."""
    return log_of(circle, group, row, seers, most).end_states()
