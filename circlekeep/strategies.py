"""Strategies: single mates that follow whatever is done in a first circle."""

from circlekeep.runs import sight_of


class Strategy:
    """Pairs of the place of a reached world of a first circle and the number of a mate that follows all deeds there.

    A pair is lost if some deed has no answer but lost pairs, or if the mate and those that follow it while the group
    sees nothing are all in some states. The pairs that are asked for and those that answer them are looked at, no
    others: answers has for each of them that is not lost its answers, one for each deed that is open.
    """

    def __init__(self, chart, follower, states):
        self.chart = chart
        self.follower = follower
        self.states = states
        self.lost = {}
        self.answers = {}
        self.askers = {}

    def is_won(self, place, number):
        """Whether the mate with a number follows whatever is done from the world at a place on."""
        waiting = [(place, number)]
        while waiting:
            pair = waiting.pop()
            if pair not in self.lost and pair not in self.answers:
                waiting.extend(self.look_at(pair))
        return (place, number) not in self.lost

    def look_at(self, pair):
        """Answer for a pair as far as is known, or note that it is lost; tells the pairs to look at behind it."""
        answers = self.answers_of(pair)
        if answers is None:
            self.lost[pair] = True
            # Whoever counted on it has to be looked at again.
            known = self.askers.pop(pair, [])
            askers = [asker for asker in known if asker in self.answers]
            for asker in askers:
                self.answers.pop(asker, None)
            return askers
        self.answers[pair] = answers
        for answer in answers:
            self.askers.setdefault(answer, []).append(pair)
        return answers

    def answers_of(self, pair):
        """For each deed that is open an answer that is not lost so far, None if there is none for one of them."""
        place, number = pair
        if self.witness(number) is None:
            return None
        answers = []
        for step in self.chart.onward[place]:
            answer = self.answer_to(step, number)
            if answer is None:
                return None
            answers.append(answer)
        return answers

    def is_outside(self, number):
        """Whether a mate is in none of the states."""
        return self.follower.mates[number][0][0] not in self.states

    def witness(self, number):
        """The first mate in none of the states that follows a mate while the group sees nothing, None if none does."""
        for rested in self.follower.resting(number):
            if self.is_outside(rested):
                return rested
        return None

    def answer_to(self, step, number):
        """A pair behind a deed that is not lost so far, None if there is none."""
        name, follow, show = step
        sight = sight_of(self.follower.group, show)
        # Circles are often alike because they do the same, so this is tried ahead of all else.
        twin = self.kept_pair(follow, self.follower.twins(number, sight, name))
        if twin is not None:
            return twin
        rested = self.follower.resting(number)
        return self.kept_pair(follow, rested if sight is None else self.follower.moved(rested, sight))

    def kept_pair(self, place, mates):
        """The first pair of a place and one of some mates that is not lost so far, None if there is none."""
        for mate in mates:
            if (place, mate) not in self.lost:
                return place, mate
        return None

    def pairs_from(self, roots):
        """Some pairs that are not lost, and all that answer for them."""
        found = {pair: True for pair in roots}
        waiting = list(roots)
        while waiting:
            pair = waiting.pop()
            for answer in self.answers[pair]:
                if answer not in found:
                    found[answer] = True
                    waiting.append(answer)
        return list(found)
