"""[27]: whether groups learn of the state, first runs, papers of it, accepted exactly if they are right."""

import unittest

from circlekeep.circles import Circle
from circlekeep.errors import TooMany
from circlekeep.learning import first_learning, judge_learning, learning_holds
from circlekeep.mates import mates_behind
from circlekeep.runs import after
from circlekeep.worlds import start_of
from helper import (ROOM, STD, all_groups, all_runs, any_values, mate_key, random_circle, same_rng, slow_covered, slow_lot,
                    slow_mates, slow_reached, slow_run, variants, world_key)

LOCK = ("lock", "s", "K")
OTHER = ("lock", "t", "K")

# Each turn shows a lock; the state is told by it, but 1 has no key before it asks.
RING = Circle(STD, 2, 3, (("ask", 0, None, ((0, ("K", (1,))), None, None)),
                          ("turn", 0, None, ((1, (LOCK, (0, 1))), (2, (OTHER, (0, 1))), (0, (LOCK, (0, 1)))))), (("K",), ()))


def cell_key(cell):
    return world_key(cell[0]), [mate_key(mate) for mate in cell[1]]


def ordered(cells):
    return tuple(sorted({(world, tuple(mates)) for world, mates in cells}, key=cell_key))


def slow_never(circle, group, states, cells):
    """[27]: whether any value has the cells of a paper that a group never learns that the state is among states."""
    return slow_covered(circle, circle, group, cells) and all(any(world[0] not in states for world, _ in mates)
                                                              for _, mates in cells)


def slow_knows(circle, group, run, states):
    """[26]: whether a group knows behind a run that the state is among some states."""
    return all(world[0] in states for world, _ in slow_mates(circle, circle, group, run))


def searched(circle, group, states, most):
    """The first run behind which it is known, None if all are longer than most."""
    return next((run for run in all_runs(circle, most) if slow_knows(circle, group, run, states)), None)


def searched_on(circle, states, most):
    """The same for member 0, but what comes of the same world and mates is looked at once."""
    waiting = [()]
    found = set()
    while waiting:
        run = waiting.pop(0)
        mates = slow_mates(circle, circle, (0,), run)
        if all(world[0] in states for world, _ in mates):
            return run
        cell = (slow_run(circle, run, (0,))[0], tuple(mates))
        if cell not in found and len(run) < most:
            found.add(cell)
            waiting.extend([(*run, name) for name in circle.names])
    return None


def full_cells(circle, group, most=40):
    """The cells with all mates of all runs, None if there are too many of them."""
    found = {}
    waiting = [()]
    while waiting:
        run = waiting.pop()
        cell = (slow_run(circle, run, group)[0], mates_behind(circle, circle, group, run))
        if len(found) > most:
            return None
        if cell not in found:
            found[cell] = True
            waiting.extend([(*run, name) for name in circle.names])
    return ordered(found)


def all_states(circle):
    """Some tuples of states, the empty one and all among them."""
    states = tuple(range(circle.states))
    return list(dict.fromkeys([(), states, states[1:], states[:-1], states[:1], states[-1:]]))


class LearningTest(unittest.TestCase):

    def check(self, circle, group, states, first):
        """All functions, the first run behind which it is known being given, or None."""
        self.assertEqual(first_learning(circle, group, states), first)
        paper = judge_learning(circle, group, states)
        self.assertEqual(len(paper), 2)
        if first is None:
            self.assertEqual(paper[0], "never")
            self.assertTrue(slow_never(circle, group, states, paper[1]), paper)
        else:
            self.assertEqual(paper[0], "learns")
            self.assertTrue(slow_knows(circle, group, paper[1], states))
        self.assertIs(learning_holds(circle, group, states, paper), True)

    def test_room(self):
        self.check(ROOM, (1,), (1,), ("hand", "post"))
        self.check(ROOM, (1,), (0,), ())
        self.check(ROOM, (1,), (0, 1), ())
        self.check(ROOM, (1,), (), None)
        self.check(ROOM, (0,), (0,), ("post", "post") if slow_knows(ROOM, (0,), ("post", "post"), (0,)) else None)
        self.check(ROOM, (0,), (1,), ("hand", "post"))
        self.check(ROOM, (0, 1), (0,), ())
        self.check(ROOM, (0, 1), (1,), ("hand",))
        self.assertEqual(first_learning(circle=ROOM, group=(1,), states=(1,), most=6), ("hand", "post"))
        self.assertEqual(judge_learning(circle=ROOM, group=(1,), states=(), most=6), judge_learning(ROOM, (1,), ()))

    def test_none_and_all_states(self):
        rng = same_rng(201)
        for _ in range(40):
            circle = random_circle(rng, members=3, deeds=4)
            if len(slow_reached(circle)) > 20:
                continue
            for group in all_groups(circle):
                self.check(circle, group, (), None)
                self.check(circle, group, tuple(range(circle.states)), ())

    def test_no_deeds(self):
        for group in all_groups(ROOM):
            still = Circle(STD, 2, 3, (), (("K", "K"), ("a",)))
            for states, first in (((), None), ((0,), ()), ((1,), None), ((1, 2), None), ((0, 2), ())):
                self.check(still, group, states, first)
            self.assertEqual(judge_learning(still, group, (1,))[1][0][0], start_of(still))

    def test_ring(self):
        self.check(RING, (1,), (0,), ())
        # A lock alone may also be K, which ask shows.
        self.check(RING, (1,), (1,), ("ask", "turn"))
        self.check(RING, (1,), (2,), searched(RING, (1,), (2,), 5))
        self.check(RING, (1,), (0, 2), ())
        self.check(RING, (1,), (1, 2), ("ask", "turn"))
        self.check(RING, (0,), (2,), ("turn", "turn"))
        silent = Circle(STD, 2, 3, tuple((name, owner, need, tuple(move and (move[0], None) for move in moves))
                                         for name, owner, need, moves in RING.deeds), RING.firsts)
        for states in ((0,), (1,), (2,), (0, 1), (0, 2), (1, 2)):
            self.check(silent, (0, 1), states, None)

    def test_a_state_that_is_possible_at_first_only_with_another_one(self):
        # Quiet deeds may lead on, so what is possible now is not one state, and the state itself may be among states.
        circle = Circle(STD, 1, 3, (("go", 0, None, ((1, None), (2, None), (2, None))),
                                    ("show", 0, None, (None, (1, ("s", (0,))), (2, ("s", (0,)))))), ((),))
        for states, first in (((0,), None), ((1, 2), ("go", "show")), ((2,), None), ((0, 1), None), ((0, 2), None), ((1,), None)):
            self.check(circle, (0,), states, first)

    def test_mates_that_must_not_be_chosen_too_early(self):
        # It is in the states behind b or behind c, and nobody can say beforehand which one will be another mate's.
        def circle(first, second):
            return Circle(STD, 1, 5, (("a", 0, None, ((1, ("K", (0,))), None, None, None, None)),
                                      ("b", 0, None, ((4, ("K", (0,))), (2, ("s", (0,))), None, None, (first, ("s", (0,))))),
                                      ("c", 0, None, (None, (2, ("t", (0,))), None, None, (second, ("t", (0,)))))), ((),))
        self.check(circle(3, 3), (0,), (2,), None)
        self.check(circle(3, 3), (0,), (3,), None)
        self.check(circle(2, 3), (0,), (2,), ("a", "b"))
        self.check(circle(3, 2), (0,), (2,), ("a", "c"))
        self.check(circle(3, 2), (0,), (3,), None)

    def test_random_ones(self):
        rng = same_rng(202)
        told = {}
        for _ in range(130):
            circle = random_circle(rng, members=3, firsts=1, deeds=4)
            if len(slow_reached(circle)) > 25:
                continue
            group = rng.choice(all_groups(circle))
            for states in rng.sample(all_states(circle), min(3, len(all_states(circle)))):
                first = searched(circle, group, states, 3)
                if first is None:
                    found = first_learning(circle, group, states)
                    self.assertTrue(found is None or len(found) > 3)
                    if found is not None and len(found) < 6:
                        first = next(run for run in all_runs(circle, len(found)) if len(run) > 3
                                     and slow_knows(circle, group, run, states))
                self.check(circle, group, states, first)
                key = None if first is None else len(first)
                told[key] = told.get(key, 0) + 1
        self.assertGreaterEqual(set(told), {None, 0, 1, 2}, told)
        self.assertGreater(told[None], 20)

    def test_long_first_runs(self):
        rng = same_rng(203)
        lengths = []
        names = ("K", "L", "M")
        while len(lengths) < 12:
            def move():
                return rng.randrange(2), (rng.choice(names), (0,)) if rng.random() < 0.8 else None
            circle = Circle(STD, 1, 2, tuple([(word, 0, None, (move(), move())) for word in "abc"]), ((),))
            states = (rng.randrange(2),)
            first = searched_on(circle, states, 5)
            if first is not None and len(first) > 2:
                self.assertEqual(first_learning(circle, (0,), states), first)
                lengths.append(len(first))
        self.assertGreaterEqual(set(lengths), {3, 4, 5})

    def test_too_many(self):
        moves = tuple([(min(at + 1, 200), None) for at in range(201)])
        line = Circle(STD, 2, 201, (("go", 0, None, moves),), ((), ()))
        for ask in (first_learning, judge_learning):
            for states in ((), (0,), (1,), (0, 1)):
                for most in range(6):
                    with self.assertRaises(TooMany) as told:
                        ask(ROOM, (1,), states, most)
                    self.assertEqual(told.exception.most, most)
                self.assertEqual(ask(ROOM, (1,), states, 6), ask(ROOM, (1,), states))
            with self.assertRaises(TooMany) as told:
                ask(line, (1,), (0,))
            self.assertEqual(told.exception.most, 200)
            self.assertIn(ask(line, (1,), tuple(range(201)), 201), ((), ("learns", ())))


class NeverTest(unittest.TestCase):

    def holds(self, circle, group, states, cells, wanted=None):
        right = slow_never(circle, group, states, cells)
        if wanted is not None:
            self.assertIs(right, wanted, cells)
        self.assertIs(learning_holds(circle, group, states, ("never", cells)), right, cells)
        return right

    def test_by_hand(self):
        # 0 does not see whether go was done.
        circle = Circle(STD, 1, 2, (("ask", 0, None, ((0, ("K", (0,))), (1, ("K", (0,))))), ("go", 0, None, ((1, None), None))), ((),))
        begin, end = ((0, ((),)), ()), ((1, ((),)), ())
        asked, told = ((0, (("K",),)), (("K", "K"),)), ((1, (("K",),)), (("K", "K"),))
        both = ((begin[0], (begin, end)), (asked[0], (asked, told)), (end[0], (begin, end)), (told[0], (asked, told)))
        for states, wanted in (((), True), ((0,), True), ((1,), True), ((0, 1), False)):
            self.holds(circle, (0,), states, ordered(both), wanted)
        self.assertIs(learning_holds(circle=circle, group=(0,), states=(1,), thing=("never", ordered(both))), True)
        # Fewer mates will do, as long as one of them is in none of the states.
        ones = ordered([(world, (end if world[1] == ((),) else told,)) for world, _ in both])
        for states, wanted in (((), True), ((0,), True), ((1,), False), ((0, 1), False)):
            self.holds(circle, (0,), states, ones, wanted)
        # A mate in state 1 has none in state 0 that follows it.
        zeros = [(world, (begin if world[1] == ((),) else asked,)) for world, _ in both]
        for states, wanted in (((1,), True), ((0,), False)):
            self.holds(circle, (0,), states, ordered(zeros), wanted)
        mixed = ordered([zeros[0], *[cell for cell in ones if cell[0] != begin[0]]])
        self.holds(circle, (0,), (), mixed, True)
        self.holds(circle, (0,), (1,), mixed, False)
        self.holds(circle, (0,), (0,), mixed, False)
        mixed = ordered([*[cell for cell in zeros if cell[0] != begin[0]], ones[0]])
        self.holds(circle, (0,), (), mixed, False)
        # A cell all of whose mates are in the states is wrong, even if nobody asks for it.
        self.holds(circle, (0,), (0,), ordered([*both, (begin[0], (begin,)), *zeros]), False)
        self.holds(circle, (0,), (1,), ordered([*both, *zeros]), True)
        for at in range(4):
            cells = ordered(both)
            self.holds(circle, (0,), (1,), (*cells[:at], *cells[at + 1:]), False)
            self.holds(circle, (0,), (1,), (*cells[:at], cells[at], *cells[at:]), False)
            self.holds(circle, (0,), (1,), (cells[at], *cells[:at], *cells[at + 1:]), at == 0)
            self.holds(circle, (0,), (1,), (*cells[:at], (cells[at][0], cells[at][1][::-1]), *cells[at + 1:]), False)
            self.holds(circle, (0,), (1,), (*cells[:at], (cells[at][0], ()), *cells[at + 1:]), False)

    def test_worlds_that_are_not_reached(self):
        word, cells = judge_learning(ROOM, (1,), ())
        self.assertEqual(word, "never")
        far = ((1, (("A", LOCK, OTHER), ("B", LOCK, OTHER))), (((1, (("K",), (LOCK, OTHER))), ((LOCK, LOCK), (OTHER, OTHER))),))
        far = ((1, (slow_lot(far[0][1][0]), slow_lot(far[0][1][1]))), far[1])
        self.holds(ROOM, (1,), (), ordered([*cells, far]))
        near = ((1, (slow_lot(("A", LOCK, OTHER)), slow_lot(("B", LOCK, OTHER)))),
                (((1, (slow_lot(("K", LOCK, OTHER)), slow_lot((LOCK, OTHER)))), slow_lot_pairs(((LOCK, LOCK), (OTHER, OTHER)))),))
        self.holds(ROOM, (1,), (), ordered([*cells, near]), True)
        self.holds(ROOM, (1,), (0,), ordered([near]), False)

    def test_any_value(self):
        word, cells = judge_learning(RING, (1,), (0, 1))
        paper = (word, cells) if word == "never" else ("never", judge_learning(RING, (1,), ())[1])
        for value in any_values():
            self.assertIs(learning_holds(RING, (1,), (), value), False)
            self.assertIs(learning_holds(RING, (1,), (), ("never", value)), False)
            self.assertIs(learning_holds(RING, (1,), (), (value, paper[1])), False)
            self.assertIs(learning_holds(RING, (1,), (), (*paper, value)), False)
            for changed in ((value, *paper[1][1:]), ((value, paper[1][0][1]), *paper[1][1:]), ((paper[1][0][0], value), *paper[1][1:]),
                            ((paper[1][0][0], (value,)), *paper[1][1:]), (*paper[1], value)):
                self.assertIs(learning_holds(RING, (1,), (), ("never", changed)), isinstance(value, tuple) and changed == paper[1])
        for wrong in (list(paper), ("Never", paper[1]), ("never",), paper[1], ("covered", paper[1]), ("learns", paper[1]),
                      ("never", list(paper[1])), ("never", paper[1][::-1]), ("kept", paper[1])):
            self.assertIs(learning_holds(RING, (1,), (), wrong), False)

    def test_papers_with_parts_changed(self):
        rng = same_rng(204)
        told = {True: 0, False: 0}
        for _ in range(90):
            circle = random_circle(rng, states=2, members=2, firsts=1)
            if len(slow_reached(circle)) > 8 or not circle.names:
                continue
            for group in all_groups(circle):
                full = full_cells(circle, group)
                if full is None:
                    continue
                for states in all_states(circle):
                    paper = judge_learning(circle, group, states)
                    self.assertIs(learning_holds(circle, group, states, paper), True)
                    self.assertIs(self.holds(circle, group, states, full), paper[0] == "never")
                    pieces = [*full, *paper[1]] if paper[0] == "never" else full
                    for cells in [*rng.sample(variants(full), 2), *self.changed(rng, circle, pieces)]:
                        told[self.holds(circle, group, states, cells)] += 1
        self.assertGreater(min(told.values()), 100, told)

    def changed(self, rng, circle, pieces):
        """Cells of some pieces, some of them changed in one way or another."""
        for _ in range(5):
            cells = list(pieces)
            at = rng.randrange(len(cells))
            world, mates = cells[at]
            pick = rng.randrange(4)
            if pick == 0:
                del cells[at]
            elif pick == 1:
                drop = rng.randrange(len(mates))
                cells[at] = (world, mates[:drop] + mates[drop + 1:])
            elif pick == 2:
                (state, lots), core = rng.choice(mates)
                cells.append((world, (((rng.randrange(circle.states), lots), core),)))
            else:
                cells.append((rng.choice(pieces)[0], mates))
            yield ordered(cells)


def slow_lot_pairs(pairs):
    return tuple(sorted(pairs, key=lambda pair: mate_key(((0, ()), (pair,)))))


class LearnsTest(unittest.TestCase):

    def test_by_hand(self):
        for run, states, wanted in ((("hand", "post"), (1,), True), (("post", "hand"), (1,), True), (("hand",), (1,), False),
                                    (("hand",), (0, 1), True), ((), (0,), True), ((), (), False), ((), (1,), False), (("post",), (0,), False),
                                    (("post", "post"), (0,), True), (("hand", "post"), (0,), False), (("hand", "post"), (), False),
                                    (["hand", "post"], (1,), False), ("hand post", (1,), False), (("hands", "post"), (0, 1), False),
                                    (("hand", None), (0, 1), False), (("hand",) * 9000, (1,), False), (("post", "hand") * 4000, (1,), True)):
            self.assertIs(learning_holds(ROOM, (1,), states, ("learns", run)), wanted, (run[:3], states))

    def test_any_value(self):
        for value in any_values():
            self.assertIs(learning_holds(ROOM, (1,), (0,), ("learns", value)), isinstance(value, tuple) and value == ())
            self.assertIs(learning_holds(ROOM, (1,), (0,), (value, ())), False)
            self.assertIs(learning_holds(ROOM, (1,), (0,), ("learns", (), value)), False)
        for wrong in (["learns", ()], ("Learns", ()), ("learns",), (), ("tells", ()), ("never", ()), ("had", ())):
            self.assertIs(learning_holds(ROOM, (1,), (0,), wrong), False)

    def test_random_ones(self):
        rng = same_rng(205)
        told = {True: 0, False: 0}
        for _ in range(90):
            circle = random_circle(rng, members=3, firsts=1)
            if len(slow_reached(circle)) > 40:
                continue
            group = rng.choice(all_groups(circle))
            for run in rng.sample(all_runs(circle, 3), min(5, len(all_runs(circle, 3)))):
                for states in all_states(circle):
                    wanted = slow_knows(circle, group, run, states)
                    told[wanted] += 1
                    self.assertIs(learning_holds(circle, group, states, ("learns", run)), wanted)
                    self.assertIs(wanted and after(circle, run)[0] not in states, False)
        self.assertGreater(min(told.values()), 100)


class ManyWorldsTest(unittest.TestCase):

    def test_never_too_many(self):
        deeds = tuple((word, 0, None, ((at % 2, (f"K{at}", (0, 1, 2))), (at % 2, (f"K{at}", (0, 1, 2)))))
                      for at, word in enumerate("abcdef"))
        deeds += tuple((word, 0, None, ((0, (f"L{at}", (1, 2))),) * 2) for at, word in enumerate("gh"))
        many = Circle(STD, 3, 2, deeds, ((), (), ()))
        self.assertEqual(len(slow_reached(many)), 473)
        self.assertIs(learning_holds(many, (0,), (0,), ("learns", ())), True)
        self.assertIs(learning_holds(many, (1, 2), (0,), ("learns", ("g", "a"))), False)
        self.assertIs(learning_holds(many, (0,), (0, 1), ("learns", ("a", "b", "c"))), True)
        self.assertIs(learning_holds(many, (0,), (0,), ("never", ())), False)
        paper = judge_learning(many, (2,), (), 473)
        self.assertEqual(len(paper[1]), 473)
        self.assertIs(learning_holds(many, (2,), (), paper), True)
        self.assertIs(learning_holds(many, (2,), (0,), paper), False)


if __name__ == "__main__":
    unittest.main()
