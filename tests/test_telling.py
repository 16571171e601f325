"""[22]: whether circles are told apart, papers of it, the first run that tells."""

import unittest

from circlekeep.books import Book
from circlekeep.circles import Circle
from circlekeep.errors import Mismatch, TooMany
from circlekeep.telling import are_alike_for, first_telling, is_covered, judge_telling
from helper import (ROOM, STD, TWO, all_groups, all_runs, like_circle, random_circle, same_rng, slow_covered, slow_mates,
                    slow_reached, slow_run)


def searched(one, other, most):
    """The first run without mates for member 0, found by the sets of mates of runs, None if all are longer than most."""
    waiting = [()]
    found = set()
    while waiting:
        run = waiting.pop(0)
        mates = slow_mates(one, other, (0,), run)
        if not mates:
            return run
        cell = (slow_run(one, run, (0,))[0], tuple(mates))
        if cell not in found and len(run) < most:
            found.add(cell)
            waiting.extend([(*run, name) for name in one.names])
    return None


class TellingTest(unittest.TestCase):

    def check(self, one, other, group, first):
        """All functions, the first run that has no mates being known, or None."""
        self.assertEqual(first_telling(one, other, group), first)
        self.assertIs(is_covered(one, other, group), first is None)
        paper = judge_telling(one, other, group)
        self.assertEqual(len(paper), 2)
        if first is None:
            self.assertEqual(paper[0], "covered")
            self.assertTrue(slow_covered(one, other, group, paper[1]))
        else:
            self.assertEqual(paper[0], "tells")
            self.assertEqual(slow_mates(one, other, group, paper[1]), [])
        back = is_covered(other, one, group)
        self.assertIs(are_alike_for(one, other, group), first is None and back)
        self.assertIs(are_alike_for(other, one, group), first is None and back)

    def test_room(self):
        self.check(ROOM, ROOM, (1,), None)
        self.check(ROOM, TWO, (1,), ("post", "hand"))
        self.check(TWO, ROOM, (1,), ("post", "hand"))
        self.check(ROOM, TWO, (0,), ("post",))
        self.check(ROOM, TWO, (0, 1), ("post",))
        for group in all_groups(ROOM):
            self.check(ROOM, ROOM.renamed((("K", "X"),)), group, None)
        self.assertIs(are_alike_for(one=ROOM, other=TWO, group=(1,), most=6), False)
        self.assertIs(is_covered(one=ROOM, other=ROOM, group=(1,), most=6), True)
        self.assertEqual(first_telling(one=ROOM, other=TWO, group=(1,), most=6), ("post", "hand"))
        self.assertEqual(judge_telling(one=ROOM, other=TWO, group=(1,), most=6), ("tells", ("post", "hand")))

    def test_firsts(self):
        def circle(*firsts):
            return Circle(STD, 2, 1, (), firsts)
        self.check(circle(("A", "B"), ()), circle(("B", "C"), ()), (0,), None)
        self.check(circle(("A", "B"), ()), circle(("B",), ()), (0,), ())
        self.check(circle(("A", "B"), ()), circle(("B",), ()), (1,), None)
        self.check(circle(("A", "B"), ()), circle(("B", "B"), ()), (0,), ())
        self.check(circle(("A",), ("B",)), circle(("A",), ("A",)), (0, 1), ())
        self.check(circle(("A",), ("B",)), circle(("A",), ("A",)), (1,), None)

    def test_one_way_only(self):
        silent = Circle(STD, 1, 1, (), ((),))
        loud = Circle(STD, 1, 1, (("ask", 0, None, ((0, ("K", (0,))),)),), ((),))
        self.check(silent, loud, (0,), None)
        self.check(loud, silent, (0,), ("ask",))
        self.assertIs(are_alike_for(silent, loud, (0,)), False)

    def test_deeds_that_show_nothing(self):
        ask = ("ask", 0, None, ((0, ("K", (1,))), (1, ("K", (1,)))))
        go = ("go", 0, None, ((1, None), None))
        show = ("go", 0, None, ((1, ("L", (0,))), None))
        one = Circle(STD, 2, 2, (ask,), ((), ()))
        for other in (Circle(STD, 2, 2, (ask, go), ((), ())), Circle(STD, 2, 2, (ask, show), ((), ()))):
            self.check(one, other, (1,), None)
            self.check(other, one, (1,), None)
        self.check(Circle(STD, 2, 2, (ask, show), ((), ())), one, (0,), ("go",))

    def test_rows_of_deeds_ahead_and_behind(self):
        moves = ((1, None), (2, ("K", (0,))), (3, None), (4, ("K", (0,))), None)
        slow = Circle(STD, 1, 5, (("go", 0, None, moves),), ((),))
        quick = Circle(STD, 1, 3, (("ask", 0, None, ((1, ("L", (0,))), (2, ("L", (0,))), None)),), ((),))
        self.check(slow, quick, (0,), None)
        self.check(quick, slow, (0,), None)
        other = Circle(STD, 1, 3, (("ask", 0, None, ((1, ("L", (0,))), (2, ("M", (0,))), None)),), ((),))
        self.check(slow, other, (0,), ("go",) * 4)
        self.check(other, slow, (0,), ("ask", "ask"))

    def test_mates_that_must_not_be_chosen_too_early(self):
        # Behind a nobody knows yet which lock will be shown, so no single mate follows whatever is done.
        fits = (2, (("lock", "s", "K"), (0,)))
        other_fits = (2, (("lock", "s", "L"), (0,)))
        one = Circle(STD, 1, 3, (("a", 0, None, ((1, ("K", (0,))), None, None)), ("b", 0, None, (None, fits, None)),
                                 ("c", 0, None, (None, other_fits, None))), ((),))
        other = Circle(STD, 1, 4, (("a", 0, None, ((1, ("K", (0,))), None, None, None)),
                                   ("b", 0, None, ((3, ("K", (0,))), None, None, None)),
                                   ("c", 0, None, (None, fits, None, other_fits))), ((),))
        self.check(one, other, (0,), None)
        self.check(other, one, (0,), None)
        self.assertIn(2, [len(mates) for _, mates in judge_telling(one, other, (0,))[1]])
        # The same if something can be done again and again meanwhile.
        one = Circle(STD, 1, 3, (*one.deeds, ("d", 0, None, (None, (1, None), None))), ((),))
        self.check(one, other, (0,), None)

    def test_random_ones(self):
        rng = same_rng(132)
        told = {}
        for _ in range(160):
            one = random_circle(rng, members=3, firsts=1, deeds=4)
            other = like_circle(rng, one) if rng.random() < 0.9 else random_circle(rng, members=one.members)
            if other.members != one.members or max(len(slow_reached(one)), len(slow_reached(other))) > 25:
                continue
            group = rng.choice(all_groups(one))
            first = next((run for run in all_runs(one, 3) if not slow_mates(one, other, group, run)), None)
            if first is None:
                found = first_telling(one, other, group)
                self.assertTrue(found is None or len(found) > 3)
                if found is not None and len(found) < 6:
                    longer = [run for run in all_runs(one, len(found)) if len(run) > 3]
                    first = next(run for run in longer if not slow_mates(one, other, group, run))
            self.check(one, other, group, first)
            told[None if first is None else len(first)] = True
        self.assertGreaterEqual(set(told), {None, 0, 1, 2})

    def test_long_first_runs(self):
        rng = same_rng(134)
        lengths = []
        names = ("K", "L", "M")
        while len(lengths) < 14:
            def move():
                return rng.randrange(2), (rng.choice(names), (0,)) if rng.random() < 0.7 else None
            deeds = [(word, 0, None, (move(), move())) for word in "abcd"]
            one = Circle(STD, 1, 2, tuple(deeds), ((),))
            del deeds[rng.randrange(4)]
            other = Circle(STD, 1, 2, tuple(deeds), ((),))
            first = searched(one, other, 4)
            if first is not None and len(first) > 2:
                self.assertEqual(first_telling(one, other, (0,)), first)
                lengths.append(len(first))
        self.assertGreaterEqual(set(lengths), {3, 4})

    def test_renamed_ones(self):
        rng = same_rng(133)
        for _ in range(40):
            one = random_circle(rng, members=3, deeds=4)
            if len(slow_reached(one)) > 40:
                continue
            other = one.renamed((("K", "L"), ("L", "M"), ("M", "K")))
            for group in all_groups(one):
                self.assertIs(are_alike_for(one, other, group), True)
                self.assertIs(are_alike_for(one, one, group), True)


class ErrorsTest(unittest.TestCase):

    def test_errors(self):
        for ask in (is_covered, judge_telling, are_alike_for, first_telling):
            for other, part in ((Circle(Book(STD.kinds, ()), 3, 1, (), ((),) * 3), "book"), (Circle(STD, 3, 1, (), ((),) * 3), "members")):
                for one, two in ((ROOM, other), (other, ROOM)):
                    with self.assertRaises(Mismatch) as told:
                        ask(one, two, (0,), 0)
                    self.assertEqual(told.exception.part, part)
            few = Circle(STD, 2, 1, (), ((), ()))
            # Where the first things tell at once, and where they do not.
            for one, two in ((ROOM, ROOM), (ROOM, few), (few, ROOM)):
                for group in ((0,), (1,)):
                    for most in range(6):
                        with self.assertRaises(TooMany) as told:
                            ask(one, two, group, most)
                        self.assertEqual(told.exception.most, most)
                    ask(one, two, group, 6)
                    self.assertEqual(ask(one, two, group, 6), ask(one, two, group))
            moves = tuple([(min(at + 1, 200), None) for at in range(201)])
            line = Circle(STD, 2, 201, (("go", 0, None, moves),), ((), ()))
            for one, two in ((line, few), (few, line), (line, ROOM)):
                with self.assertRaises(TooMany) as told:
                    ask(one, two, (0,))
                self.assertEqual(told.exception.most, 200)
            ask(few, line, (0,), 201)


if __name__ == "__main__":
    unittest.main()
