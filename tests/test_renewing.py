"""[29]: names that are renewed behind a deed."""

import unittest

from circlekeep.circles import Circle
from circlekeep.errors import NoDeed
from circlekeep.keeping import keeps
from circlekeep.renewing import renewed
from circlekeep.runs import after, seen
from circlekeep.things import names_in
from helper import ROOM, STD, all_groups, all_runs, any_values, random_circle, same_rng, slow_had, slow_swapped

LOCK = ("lock", "s", "K")
OTHER = ("lock", "t", "K")


def slow_renewed(circle, name, deed, others):
    """[29]: the renewed circle, move by move."""
    many = circle.states
    names = [name, *others]
    deeds = []
    for word, owner, need, moves in circle.deeds:
        found = []
        for state in range(many * len(names)):
            lot, old = state // many, state % many
            if moves[old] is None:
                found.append(None)
                continue
            follow, show = moves[old]
            if word == deed and lot < len(others):
                follow += many
            if show is not None:
                show = (slow_swapped(show[0], {name: names[lot]}), show[1])
            found.append((follow + many * lot, show))
        deeds.append((word, owner, need, tuple(found)))
    return Circle(circle.book, circle.members, many * len(names), tuple(deeds), circle.firsts)


def beside(circle, name, deed, others, run, group):
    """The state, the lot and the things that a group sees, if a circle is followed and its shows have the names of lots."""
    names = [name, *others]
    state, lot = 0, 0
    lots = [list(things) for things in circle.firsts]
    row = [thing for member in group for thing in circle.firsts[member]]
    for word in run:
        _, owner, need, moves = circle.deed(word)
        if moves[state] is None or (need is not None and not slow_had(circle.book, dict.fromkeys(lots[owner]), need)):
            continue
        state, show = moves[state]
        if show is not None:
            thing = slow_swapped(show[0], {name: names[lot]})
            for member in show[1]:
                lots[member].append(thing)
            if set(show[1]) & set(group):
                row.append(thing)
        if word == deed and lot < len(others):
            lot += 1
    return state, lot, tuple(row)


class RenewedTest(unittest.TestCase):

    def test_room(self):
        made = renewed(ROOM, "K", "hand", ("L",))
        second = (("lock", "s", "L"), (0, 1)), (("lock", "t", "L"), (0, 1))
        wanted = Circle(STD, 2, 4, (
            ("hand", 0, None, ((3, ("K", (1,))), None, (3, ("L", (1,))), None)),
            ("post", 0, None, ((0, (LOCK, (0, 1))), (1, (OTHER, (0, 1))), (2, second[0]), (3, second[1]))),
        ), ROOM.firsts)
        self.assertEqual(made, wanted)
        self.assertEqual(renewed(circle=ROOM, name="K", deed="hand", others=("L",)), wanted)
        made = renewed(ROOM, "K", "post", ("M", "L"))
        self.assertEqual(made.states, 6)
        self.assertEqual(made.deed("post")[3], ((2, (LOCK, (0, 1))), (3, (OTHER, (0, 1))), (4, (("lock", "s", "M"), (0, 1))),
                                                (5, (("lock", "t", "M"), (0, 1))), (4, (("lock", "s", "L"), (0, 1))),
                                                (5, (("lock", "t", "L"), (0, 1)))))
        self.assertEqual(made.deed("hand")[3], ((1, ("K", (1,))), None, (3, ("M", (1,))), None, (5, ("L", (1,))), None))

    def test_what_was_had_stays_had(self):
        # Behind hand the old lock can be opened, the new one cannot.
        made = renewed(ROOM, "K", "hand", ("L",))
        self.assertIs(keeps(ROOM, (1,), "t"), False)
        self.assertIs(keeps(made, (1,), "L"), True)
        self.assertIs(keeps(made, (1,), "K"), False)
        row = seen(made, ("post", "hand", "post"), (1,))
        self.assertEqual(row.things, (LOCK, "K", ("lock", "t", "L")))

    def test_needs_firsts_and_members_stay(self):
        deeds = (("ask", 1, ("half", "K"), ((0, (("pair", "K", ("sign", "K", "L")), (0, 2))),)), ("bid", 2, "K", ((0, None),)))
        circle = Circle(STD, 3, 1, deeds, (("K", ("half", "K")), ("K",), ()))
        made = renewed(circle, "K", "bid", ("X", "Y", "Z"))
        self.assertEqual((made.members, made.states, made.firsts, made.book), (3, 4, circle.firsts, STD))
        self.assertEqual([deed[:3] for deed in made.deeds], [deed[:3] for deed in deeds])
        self.assertEqual([move[1][0] for move in made.deed("ask")[3]],
                         [("pair", name, ("sign", name, "L")) for name in ("K", "X", "Y", "Z")])
        self.assertEqual(made.deed("bid")[3], ((1, None), (2, None), (3, None), (3, None)))

    def test_a_name_that_stands_nowhere(self):
        made = renewed(ROOM, "Z9", "hand", ("Y", "X"))
        self.assertEqual(made.states, 6)
        self.assertEqual([move and move[1] for move in made.deed("post")[3]], [move[1] for move in ROOM.deed("post")[3]] * 3)
        self.assertEqual([move and move[0] for move in made.deed("hand")[3]], [3, None, 5, None, 5, None])

    def test_many_states(self):
        moves = tuple([((at + 1) % 6, ("K", (0,)) if at % 2 else None) for at in range(6)])
        circle = Circle(STD, 1, 6, (("go", 0, None, moves),), ((),))
        others = tuple(f"L{at}" for at in range(50))
        made = renewed(circle, "K", "go", others)
        self.assertEqual(made.states, 306)
        self.assertEqual(made, slow_renewed(circle, "K", "go", others))
        self.assertEqual(after(made, ("go",) * 60)[0], 300)
        self.assertEqual(renewed(Circle(STD, 1, 1, (("go", 0, None, (None,)),), ((),)), "K", "go", ("L",)).deeds,
                         (("go", 0, None, (None, None)),))

    def test_random_ones(self):
        rng = same_rng(241)
        changed = 0
        for _ in range(150):
            circle = random_circle(rng)
            if not circle.names:
                continue
            deed = rng.choice(circle.names)
            name = rng.choice(("K", "L", "M", "N"))
            others = tuple(rng.sample(("X", "Y", "Z", "W"), rng.randint(1, 3)))
            made = renewed(circle, name, deed, others)
            self.assertEqual(made, slow_renewed(circle, name, deed, others))
            changed += made.deeds != renewed(circle, "Q", deed, others).deeds
            for run in rng.sample(all_runs(circle, 4), min(10, len(all_runs(circle, 4)))):
                for group in all_groups(circle):
                    state, lot, row = beside(circle, name, deed, others, run, group)
                    self.assertEqual(after(made, run)[0], state + circle.states * lot)
                    self.assertEqual(seen(made, run, group).things, row)
                    if lot == 0:
                        self.assertEqual(after(made, run), after(circle, run))
        self.assertGreater(changed, 30)

    def test_names_of_shows(self):
        made = renewed(ROOM, "K", "hand", ("L", "M"))
        for deed in made.deeds:
            for state, move in enumerate(deed[3]):
                if move is not None:
                    self.assertEqual(names_in(move[1][0]), (("K", "L", "M")[state // 2],))

    def test_no_deed(self):
        for value in any_values():
            with self.assertRaises(NoDeed) as told:
                renewed(ROOM, "K", value, ("L",))
            self.assertIs(told.exception.name, value)
        for value in ("hands", "Hand", "", "hand ", ("hand",)):
            with self.assertRaises(NoDeed):
                renewed(ROOM, "K", value, ("L",))
        with self.assertRaises(NoDeed):
            renewed(Circle(STD, 1, 1, (), ((),)), "K", "hand", ("L",))


if __name__ == "__main__":
    unittest.main()
