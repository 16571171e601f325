"""[28]: shows left out, needs put in."""

import itertools
import unittest

from circlekeep.circles import Circle
from circlekeep.errors import TooMany
from circlekeep.keeping import keeps
from circlekeep.mends import least_left_out, least_needs, places_of, with_needs, without_shows
from circlekeep.worlds import worlds_of
from helper import POOL, ROOM, STD, all_groups, random_circle, random_thing, same_rng, slow_first, slow_reached

LOCK = ("lock", "s", "K")
OTHER = ("lock", "t", "K")


def slow_places(circle):
    """[28]: the places of shows."""
    return [(deed[0], state) for deed in circle.deeds for state in range(circle.states)
            if deed[3][state] is not None and deed[3][state][1] is not None]


def slow_without(circle, places):
    """[28]: the circle without the shows at some places."""
    deeds = []
    for name, owner, need, moves in circle.deeds:
        kept = [move if (name, state) not in places else (move[0], None) for state, move in enumerate(moves)]
        deeds.append((name, owner, need, tuple(kept)))
    return Circle(circle.book, circle.members, circle.states, tuple(deeds), circle.firsts)


def slow_with(circle, names, thing):
    """[28]: the circle in which deeds need a thing."""
    deeds = [(name, owner, thing if name in names else need, moves) for name, owner, need, moves in circle.deeds]
    return Circle(circle.book, circle.members, circle.states, tuple(deeds), circle.firsts)


def slow_least(items, mend, group, thing):
    """[28]: the least sets of items by which a circle is mended, all sets being tried."""
    found = []
    for size in range(len(items) + 1):
        for chosen in itertools.combinations(items, size):
            if slow_first(mend(chosen), group, thing) is None:
                found.append(chosen)
    return tuple(sorted(one for one in found if not any(set(other) < set(one) for other in found)))


class CirclesTest(unittest.TestCase):

    def test_room(self):
        self.assertEqual(places_of(ROOM), (("hand", 0), ("post", 0), ("post", 1)))
        post = (0, (LOCK, (0, 1))), (1, (OTHER, (0, 1)))
        for places, moves in (((), (((1, ("K", (1,))), None), post)), ((("hand", 0),), (((1, None), None), post)),
                              ((("post", 1),), (((1, ("K", (1,))), None), (post[0], (1, None)))),
                              ((("hand", 0), ("post", 0), ("post", 1)), (((1, None), None), ((0, None), (1, None))))):
            wanted = Circle(STD, 2, 2, (("hand", 0, None, moves[0]), ("post", 0, None, moves[1])), ROOM.firsts)
            self.assertEqual(without_shows(ROOM, places), wanted)
            self.assertEqual(without_shows(circle=ROOM, places=places), wanted)
        for names in ((), ("hand",), ("post",), ("hand", "post")):
            for thing in ("K", "a", LOCK):
                made = with_needs(ROOM, names, thing)
                self.assertEqual(made, slow_with(ROOM, names, thing))
                self.assertEqual(with_needs(circle=ROOM, names=names, thing=thing), made)
                self.assertEqual([deed[2] for deed in made.deeds], [thing if name in names else None for name in ROOM.names])

    def test_random_ones(self):
        rng = same_rng(211)
        for _ in range(60):
            circle = random_circle(rng, deeds=5)
            places = places_of(circle)
            self.assertEqual(list(places), slow_places(circle))
            self.assertEqual(list(places), sorted(places))
            chosen = tuple(place for place in places if rng.random() < 0.5)
            self.assertEqual(without_shows(circle, chosen), slow_without(circle, chosen))
            self.assertEqual(places_of(without_shows(circle, chosen)), tuple(place for place in places if place not in chosen))
            free = tuple(deed[0] for deed in circle.deeds if deed[2] is None and rng.random() < 0.5)
            thing = random_thing(rng, STD, 2)
            self.assertEqual(with_needs(circle, free, thing), slow_with(circle, free, thing))

    def test_no_deeds(self):
        still = Circle(STD, 1, 1, (), (("K",),))
        self.assertEqual(places_of(still), ())
        self.assertEqual(without_shows(still, ()), still)
        self.assertEqual(with_needs(still, (), "K"), still)
        self.assertEqual(least_left_out(still, (0,), "K"), ())
        self.assertEqual(least_left_out(still, (0,), "L"), ((),))
        self.assertEqual(least_needs(still, (0,), "K", "M"), ())
        self.assertEqual(least_needs(still, (0,), "L", "M"), ((),))


class LeastTest(unittest.TestCase):

    def left_out(self, circle, group, thing, wanted):
        self.assertEqual(least_left_out(circle, group, thing), wanted)
        self.assertEqual(slow_least(slow_places(circle), lambda places: slow_without(circle, places), group, thing), wanted)
        for places in wanted:
            self.assertIs(keeps(without_shows(circle, places), group, thing, 10000), True)

    def needs(self, circle, group, thing, need, wanted):
        self.assertEqual(least_needs(circle, group, thing, need), wanted)
        free = [deed[0] for deed in circle.deeds if deed[2] is None]
        self.assertEqual(slow_least(free, lambda names: slow_with(circle, names, need), group, thing), wanted)
        for names in wanted:
            self.assertIs(keeps(with_needs(circle, names, need), group, thing, 10000), True)

    def test_room(self):
        self.left_out(ROOM, (1,), "K", ((("hand", 0),),))
        self.left_out(ROOM, (0,), "K", ())
        self.left_out(ROOM, (1,), "L", ((),))
        self.left_out(ROOM, (1,), LOCK, ((("hand", 0), ("post", 0)),))
        self.left_out(ROOM, (1,), OTHER, ((("hand", 0), ("post", 1)),))
        self.left_out(ROOM, (0, 1), "K", ())
        self.needs(ROOM, (1,), "K", "M", (("hand",),))
        self.needs(ROOM, (1,), "K", "K", ())
        self.needs(ROOM, (1,), LOCK, "M", (("hand", "post"),))
        self.needs(ROOM, (1,), "L", "M", ((),))
        self.needs(ROOM, (0,), "K", "M", ())
        self.needs(ROOM, (1,), "K", LOCK, ())
        self.assertEqual(least_left_out(circle=ROOM, group=(1,), thing="K", most=6), ((("hand", 0),),))
        self.assertEqual(least_needs(circle=ROOM, group=(1,), thing="K", need="M", most=6), (("hand",),))

    def test_several_least_sets(self):
        # Whoever has the lock and the key has what is locked.
        deeds = (("ask", 0, None, ((0, ("K", (1,))), (0, ("K", (1,))))), ("bid", 0, None, ((1, (("lock", "S", "K"), (1,))), None)),
                 ("cut", 0, None, ((0, (("lock", "S", "L"), (1,))), (0, ("L", (1,))))))
        circle = Circle(STD, 2, 2, deeds, (("M",), ()))
        self.left_out(circle, (1,), "S", ((("ask", 0), ("ask", 1), ("cut", 0)), (("ask", 0), ("ask", 1), ("cut", 1)),
                                          (("bid", 0), ("cut", 0)), (("bid", 0), ("cut", 1))))
        self.needs(circle, (1,), "S", "N", (("ask", "cut"), ("bid",)))
        self.needs(circle, (1,), "S", "M", ())
        self.left_out(circle, (1,), "L", ((("cut", 1),),))
        self.needs(circle, (1,), "L", "N", (("bid",), ("cut",)))

    def test_deeds_that_needed_something_already(self):
        deeds = (("ask", 0, "K", ((0, ("S", (1,))),)), ("bid", 0, None, ((0, ("K", (0,))),)))
        circle = Circle(STD, 2, 1, deeds, ((), ()))
        # Only bid can be asked for more; ask stays as it is.
        self.needs(circle, (1,), "S", "N", (("bid",),))
        self.needs(circle, (1,), "S", "a", ())
        self.left_out(circle, (1,), "S", ((("ask", 0),), (("bid", 0),)))
        self.needs(Circle(STD, 2, 1, deeds, (("K",), ())), (1,), "S", "N", ())

    def test_needs_that_nobody_has_and_that_all_have(self):
        deeds = (("ask", 0, None, ((0, ("S", (1,))),)), ("bid", 1, None, ((0, ("K", (0,))),)), ("cut", 2, None, ((0, ("K", (2,))),)))
        circle = Circle(STD, 3, 1, deeds, ((), ("L",), ("L",)))
        self.needs(circle, (1,), "S", "N", (("ask",),))
        self.needs(circle, (1,), "S", "b", ())
        self.needs(circle, (1,), "S", "K", (("ask", "bid"),))
        self.needs(circle, (1,), "S", "L", (("ask",),))
        self.needs(circle, (0,), "K", "L", ())
        self.needs(circle, (0, 2), "K", "N", (("bid", "cut"),))
        self.needs(circle, (2,), "S", "N", ((),))

    def test_a_thing_that_can_always_be_made(self):
        for thing in ("a", ("pair", "a", "b"), ("lock", "a", "b")):
            self.left_out(ROOM, (1,), thing, ())
            self.needs(ROOM, (1,), thing, "M", ())

    def test_random_ones(self):
        rng = same_rng(212)
        told = {}
        for _ in range(500):
            circle = random_circle(rng, members=3, deeds=4, firsts=1, pool=rng.choice((POOL, ("K", "L", ("lock", "S", "K"), ("lock", "S", "L")))))
            if len(slow_places(circle)) > 6 or len(slow_reached(circle)) > 40:
                continue
            group = rng.choice(all_groups(circle))
            shown = [move[1][0] for deed in circle.deeds for move in deed[3] if move is not None and move[1] is not None]
            thing = "S" if rng.random() < 0.3 else rng.choice(shown) if shown and rng.random() < 0.8 else random_thing(rng, STD, 1)
            wanted = slow_least(slow_places(circle), lambda places: slow_without(circle, places), group, thing)
            self.left_out(circle, group, thing, wanted)
            need = rng.choice([*POOL, "N", "N"])
            free = [deed[0] for deed in circle.deeds if deed[2] is None]
            needed = slow_least(free, lambda names: slow_with(circle, names, need), group, thing)
            self.needs(circle, group, thing, need, needed)
            for sort, found in (("left", wanted), ("needs", needed)):
                key = sort, min(len(found), 2), len(found[0]) > 0 if found else None
                told[key] = told.get(key, 0) + 1
        for sort in ("left", "needs"):
            for key in ((0, None), (1, False), (1, True)):
                self.assertGreater(told.get((sort, *key), 0), 4, told)
        self.assertGreater(told[("left", 2, True)], 4)


class TooManyTest(unittest.TestCase):

    def test_too_many(self):
        for group, thing in (((1,), "K"), ((0,), "K"), ((1,), "L"), ((1,), "a")):
            for ask in (lambda *most: least_left_out(ROOM, group, thing, *most), lambda *most: least_needs(ROOM, group, thing, "M", *most)):
                for most in range(6):
                    with self.assertRaises(TooMany) as told:
                        ask(most)
                    self.assertEqual(told.exception.most, most)
                self.assertEqual(ask(6), ask())
        moves = tuple([(min(at + 1, 200), None) for at in range(201)])
        line = Circle(STD, 2, 201, (("go", 0, None, moves),), (("K",), ()))
        for ask in (lambda *most: least_left_out(line, (1,), "K", *most), lambda *most: least_needs(line, (1,), "K", "M", *most)):
            with self.assertRaises(TooMany) as told:
                ask()
            self.assertEqual(told.exception.most, 200)
            self.assertEqual(ask(201), ((),))

    def test_worlds_of_mended_circles_do_not_count(self):
        # All see the same by each deed; where it is left out for some states, there are more worlds.
        deeds = (("ask", 0, None, ((1, ("K", (0,))), (2, ("K", (0,))), (0, ("K", (0,))))),
                 ("bid", 0, None, ((0, ("S", (1,))), (1, ("T", (1,))), (2, None))))
        circle = Circle(STD, 2, 3, deeds, (("K",), ()))
        names = worlds_of(circle)
        for places in itertools.combinations(places_of(circle), 2):
            self.assertLessEqual(len(worlds_of(without_shows(circle, places))), len(names))
        deeds = tuple((word, 0, None, ((1, ("K", (0,))), (1, (f"L{at}", (1,))))) for at, word in enumerate("abc"))
        circle = Circle(STD, 2, 2, deeds, ((), ()))
        many = len(worlds_of(circle))
        self.assertEqual(least_left_out(circle, (1,), "L1", many), ((("b", 1),),))
        self.assertEqual(least_needs(circle, (1,), "L1", "K", many), (("a", "b", "c"),))
        # By a the state changes and nothing is shown, so with fewer shows one may come there without K.
        deeds = (("a", 0, None, ((0, ("K", (0,))), None)), ("b", 0, None, ((1, ("K", (0,))), (1, ("L", (0,))))),
                 ("c", 0, None, ((0, ("S", (1,))), (1, ("S", (1,))))), ("d", 0, None, ((0, None), (1, ("M", (0,))))))
        circle = Circle(STD, 2, 2, deeds, (("S", ), ()))
        many = len(worlds_of(circle))
        more = max(len(worlds_of(without_shows(circle, places))) for size in range(4)
                   for places in itertools.combinations(places_of(circle), size))
        self.assertGreater(more, many)
        with self.assertRaises(TooMany):
            least_left_out(circle, (1,), "S", many - 1)
        self.assertEqual(least_left_out(circle, (1,), "S", many), ((("c", 0), ("c", 1)),))
        self.assertEqual(least_needs(circle, (1,), "S", "N", many), (("c",),))


if __name__ == "__main__":
    unittest.main()
