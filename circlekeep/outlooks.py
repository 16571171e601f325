"""Outlooks: what one group holds possible of what another group holds possible."""

from circlekeep.images import Images, bits_of, numbers_in


class Outlook:
    """What two groups hold possible behind the runs of a circle, step by step; outer and inner are their followers.

    Views are a dict that has, for the number of each mate that a run has for the outer group, the set of all mates that
    the runs to this mate have for the inner group.
    """

    def __init__(self, outer, inner):
        self.outer = outer
        self.inner = inner
        self.images = Images(inner)
        self.known = {}

    def first_views(self, first, mates):
        """The views of the empty run, from its told core for the outer group and its mates for the inner one."""
        return self.rested({self.outer.number_of((self.outer.stage.start, first)): bits_of(mates)})

    def image(self, bits, sight):
        """The inner mates that follow some inner mates for a sight."""
        if (bits, sight) not in self.known:
            self.known[bits, sight] = self.images.image(bits, sight)
        return self.known[bits, sight]

    def views_behind(self, number, bits, sight):
        """Pairs for views behind the deeds by which the outer group sees what looks like a sight, or nothing."""
        world, core = self.outer.mates[number]
        found = []
        for ahead, behind in zip(self.outer.ends_at(world), self.inner.ends_at(world)):
            grown = self.outer.grown_core(core, sight, ahead[2])
            if grown is not None:
                found.append((self.outer.number_of((ahead[1], grown)), self.image(bits, behind[2])))
        return found

    def rested(self, views):
        """Views with all that can be done while the outer group sees nothing."""
        found = {}
        waiting = list(views.items())
        while waiting:
            number, bits = waiting.pop()
            known = found.get(number, 0)
            fresh = bits & known ^ bits
            if fresh:
                found[number] = known | fresh
                waiting.extend(self.views_behind(number, fresh, None))
        return found

    def moved(self, views, sight):
        """Views behind what looks to the outer group like a sight."""
        found = {}
        for number, bits in views.items():
            for further, image in self.views_behind(number, bits, sight):
                found[further] = found.get(further, 0) | image
        return self.rested(found)

    def inner_mates(self, views):
        """The numbers of all mates for the inner group in views, some perhaps twice."""
        return [number for bits in views.values() for number in numbers_in(bits)]
