"""[15]: circles, their deeds, other names in them and other orders of their members."""

import itertools
import unittest

from circlekeep.books import Book
from circlekeep.circles import Circle
from circlekeep.errors import BadCircle, NoDeed
from helper import ROOM, STD, WIDE, any_values, random_circle, same_rng, slow_swapped, variants

LOCK = ("lock", "s", "K")
DEED = ("ask", 1, ("pair", "K", "L"), ((1, (LOCK, (0, 1))), None))
OTHER = ("bid", 0, None, ((0, None), (1, ("L", (1,)))))
GOOD = (2, 2, (DEED, OTHER), (("K", LOCK, "K"), ()))
PARTS = ("members", "states", "deeds", "firsts")


def circle(members=2, states=2, deeds=(DEED, OTHER), firsts=(("K", LOCK, "K"), ()), book=STD):
    return Circle(book, members, states, deeds, firsts)


def moved(*moves, need=None, owner=0, name="ask"):
    return ((name, owner, need, moves),)


class CircleTest(unittest.TestCase):

    def check_bad(self, part, members=2, states=2, deeds=(DEED, OTHER), firsts=(("K",), ())):
        with self.assertRaises(BadCircle, msg=(members, states, deeds, firsts)) as told:
            Circle(STD, members, states, deeds, firsts)
        self.assertEqual(told.exception.part, part)

    def test_attributes(self):
        made = Circle(book=STD, members=2, states=2, deeds=(DEED, OTHER), firsts=(("K", LOCK, "K"), ()))
        self.assertEqual((made.book, made.members, made.states, made.deeds, made.firsts), (STD, *GOOD))
        self.assertEqual(made.names, ("ask", "bid"))
        self.assertEqual(Circle(STD, 1, 1, (), ((),)).names, ())

    def test_members(self):
        for value in (*any_values(), 4, 5, -1, "2"):
            if value in (1, 2, 3, 4) and not isinstance(value, bool):
                self.assertEqual(circle(members=value, deeds=(), firsts=((),) * value).members, value)
            else:
                for states in (2, None):
                    self.check_bad("members", members=value, states=states, deeds=None, firsts=None)

    def test_states(self):
        for value in (*any_values(), 0, -1, True, False, None):
            if isinstance(value, int) and not isinstance(value, bool) and value > 0:
                self.assertEqual(circle(states=value, deeds=()).states, value)
            else:
                self.check_bad("states", states=value, deeds=None, firsts=None)
        many = 10 ** 40 - 1
        self.assertEqual(Circle(STD, 2, many, (), ((), ())).states, many)
        self.check_bad("deeds", states=many)

    def test_deeds(self):
        for value in any_values():
            if value != ():
                self.check_bad("deeds", deeds=value, firsts=value)
                self.check_bad("deeds", deeds=(value,), firsts=())
                self.check_bad("deeds", deeds=(DEED, value), firsts=())
        self.check_bad("deeds", deeds=(DEED, DEED))
        self.check_bad("deeds", deeds=(OTHER, DEED))
        self.check_bad("deeds", deeds=[DEED, OTHER])
        self.assertEqual(circle(deeds=()).deeds, ())
        for name in ("", "A", "abcdefghi", "a1", "K", None, 1, ("a",), ["a"], "a b", "-"):
            self.check_bad("deeds", deeds=moved(None, None, name=name))
        self.assertEqual(circle(deeds=moved(None, None, name="abcdefgh")).names, ("abcdefgh",))
        for owner in (2, -1, True, False, None, "0", (0,), [], STD):
            self.check_bad("deeds", deeds=moved(None, None, owner=owner))
        for need in any_values():
            if need is None or STD.is_thing(need):
                self.assertEqual(circle(deeds=moved(None, None, need=need)).deeds[0][2], need)
            else:
                self.check_bad("deeds", deeds=moved(None, None, need=need))

    def test_moves(self):
        for moves in ((), (None,), (None, None, None)):
            self.check_bad("deeds", deeds=moved(*moves))
        for value in any_values():
            if value is not None and value != (0, 1):
                self.check_bad("deeds", deeds=moved(None, value))
                self.check_bad("deeds", deeds=(("ask", 0, None, value),))
        for follow in (2, -1, True, False, None, "0", (0,)):
            self.check_bad("deeds", deeds=moved(None, (follow, None)))
            self.check_bad("deeds", deeds=moved((follow, ("K", (0,))), None))
        for move in ((0,), (0, None, None), [0, None], (0, 1), (0, ()), (0, False), (0, ("K",)), (0, ("K", (0,), 1)),
                     (0, ["K", (0,)])):
            self.check_bad("deeds", deeds=moved(move, None))

    def test_shows(self):
        for thing in any_values():
            deeds = moved(None, (1, (thing, (0,))))
            if STD.is_thing(thing):
                self.assertEqual(circle(deeds=deeds).deeds, deeds)
            else:
                self.check_bad("deeds", deeds=deeds)
        for members in ((), (1, 0), (0, 0), (0, 2), (-1,), (True,), (0, True), [0], None, 0, "0", ((0,),), (None,)):
            self.check_bad("deeds", deeds=moved(None, (1, ("K", members))))
        for members in ((0,), (1,), (0, 1)):
            deeds = moved(None, (1, ("K", members)))
            self.assertEqual(circle(deeds=deeds).deeds, deeds)

    def test_firsts(self):
        for firsts in ((), ((),), ((), (), ()), [(), ()], ((), []), (None, ()), ((), None), ("K", ()), (("K",), "")):
            self.check_bad("firsts", firsts=firsts)
        for value in any_values():
            self.check_bad("firsts", firsts=(value,))
            if not STD.is_thing(value):
                self.check_bad("firsts", firsts=((), ("K", value)))
                self.check_bad("firsts", firsts=((value, "K"), ()))
            elif isinstance(value, (str, tuple)):
                self.assertEqual(circle(firsts=((value, "K", value), ())).firsts, ((value, "K", value), ()))
        self.check_bad("firsts", firsts=((("tin", "a"),), ()))
        self.assertEqual(circle(deeds=(), firsts=((("tin", "a"),), ()), book=WIDE).book, WIDE)

    def test_first_wrong_part(self):
        for value in (None, True, 0, [], ROOM):
            self.check_bad("members", value, value, value, value)
            self.check_bad("states", 2, value, value, value)
            self.check_bad("deeds", 2, 2, value, value)
            self.check_bad("firsts", 2, 2, (), value)

    def test_variants(self):
        for at in range(4):
            for value in variants(GOOD[at]):
                parts = [*GOOD[:at], value, *GOOD[at + 1:]]
                try:
                    made = Circle(STD, *parts)
                    self.assertEqual([getattr(made, part) for part in PARTS], parts)
                    self.assertNotIsInstance(value, list)
                except BadCircle as told:
                    # With other members or states the deeds or firsts behind them can be what is wrong.
                    self.assertGreaterEqual(PARTS.index(told.part), at)

    def test_deed(self):
        made = circle()
        self.assertEqual(made.deed("ask"), DEED)
        self.assertEqual(made.deed(name="bid"), OTHER)
        for value in (*any_values(), "asks", "as", "ask ", DEED, None, ("ask",), ["ask"], {"ask": 1}):
            with self.assertRaises(NoDeed) as told:
                made.deed(value)
            self.assertIs(told.exception.name, value)

    def test_equal(self):
        self.assertEqual(circle(), circle(book=Book(STD.kinds, STD.openings)))
        self.assertNotEqual(circle(), circle(firsts=(("K", "K", LOCK), ())))
        self.assertNotEqual(circle(), circle(deeds=(DEED,)))
        self.assertNotEqual(circle(deeds=()), circle(deeds=(), states=3))
        self.assertNotEqual(Circle(STD, 1, 1, (), ((),)), Circle(Book(STD.kinds, ()), 1, 1, (), ((),)))
        self.assertNotEqual(Circle(STD, 1, 1, (), ((),)), Circle(STD, 2, 1, (), ((), ())))
        for value in any_values():
            self.assertIs(value == circle(), False)
            self.assertIs(circle() == value, False)
            self.assertIs(ROOM == value, value is ROOM)


class RenamedTest(unittest.TestCase):

    def test_all_things(self):
        made = circle().renamed((("K", "M"),))
        lock = ("lock", "s", "M")
        self.assertEqual(made.deeds, (("ask", 1, ("pair", "M", "L"), ((1, (lock, (0, 1))), None)), OTHER))
        self.assertEqual(made.firsts, (("M", lock, "M"), ()))
        self.assertEqual((made.book, made.members, made.states), (STD, 2, 2))

    def test_all_at_once(self):
        made = circle().renamed(pairs=(("K", "L"), ("L", "K")))
        self.assertEqual(made.deeds[0][2], ("pair", "L", "K"))
        self.assertEqual(made.deeds[1][3][1], (1, ("K", (1,))))
        self.assertEqual(made.firsts, (("L", ("lock", "s", "L"), "L"), ()))
        self.assertEqual(made.renamed((("K", "L"), ("L", "K"))), circle())
        self.assertEqual(circle().renamed((("K", "L"), ("L", "M"))).deeds[0][2], ("pair", "L", "M"))

    def test_names_that_come_to_be_one(self):
        made = circle(firsts=(("K", "L"), ("L",))).renamed((("L", "K"),))
        self.assertEqual(made.firsts, (("K", "K"), ("K",)))
        self.assertEqual(made.deeds[0][2], ("pair", "K", "K"))

    def test_no_such_names(self):
        self.assertEqual(circle().renamed(()), circle())
        self.assertEqual(circle().renamed((("Z", "K"),)), circle())

    def test_random_ones(self):
        rng = same_rng(61)
        for _ in range(60):
            made = random_circle(rng)
            names = rng.sample("KLMNO", 3)
            pairs = tuple(zip(names, [rng.choice("KLMX") for _ in names]))
            table = dict(pairs)
            other = made.renamed(pairs)
            for deed, told in zip(made.deeds, other.deeds):
                self.assertEqual(told[2], None if deed[2] is None else slow_swapped(deed[2], table))
                for move, shown in zip(deed[3], told[3]):
                    if move is None or move[1] is None:
                        self.assertEqual(shown, move)
                    else:
                        self.assertEqual(shown, (move[0], (slow_swapped(move[1][0], table), move[1][1])))
            self.assertEqual(other.firsts, tuple(tuple(slow_swapped(thing, table) for thing in things)
                                                 for things in made.firsts))


class TurnedTest(unittest.TestCase):

    def test_by_hand(self):
        deeds = (("ask", 0, "K", ((0, ("L", (0, 2))),)), ("bid", 2, None, ((0, ("M", (1, 2))),)))
        made = Circle(STD, 3, 1, deeds, (("A",), ("B",), ("C",)))
        turned = made.turned(order=(2, 0, 1))
        self.assertEqual(turned.firsts, (("C",), ("A",), ("B",)))
        self.assertEqual(turned.deeds, (("ask", 1, "K", ((0, ("L", (0, 1))),)), ("bid", 0, None, ((0, ("M", (0, 2))),))))
        self.assertEqual(made.turned((0, 1, 2)), made)
        self.assertEqual(turned.turned((1, 2, 0)), made)
        for order in itertools.permutations(range(3)):
            turned = made.turned(order)
            self.assertEqual(turned.firsts, tuple(made.firsts[member] for member in order))
            self.assertEqual([order[turned.deeds[at][1]] for at in (0, 1)], [0, 2])
            shows = [turned.deeds[at][3][0][1][1] for at in (0, 1)]
            self.assertEqual([sorted(order[at] for at in show) for show in shows], [[0, 2], [1, 2]])

    def test_each_order(self):
        rng = same_rng(62)
        for _ in range(60):
            made = random_circle(rng, members=4)
            order = rng.sample(range(made.members), made.members)
            turned = made.turned(tuple(order))
            self.assertEqual(turned.names, made.names)
            for at, member in enumerate(order):
                self.assertEqual(turned.firsts[at], made.firsts[member])
            for deed, told in zip(made.deeds, turned.deeds):
                self.assertEqual((told[0], order[told[1]], told[2]), deed[:3])
                for move, shown in zip(deed[3], told[3]):
                    if move is None or move[1] is None:
                        self.assertEqual(shown, move)
                    else:
                        self.assertEqual((shown[0], shown[1][0]), (move[0], move[1][0]))
                        self.assertEqual(tuple(sorted(order[at] for at in shown[1][1])), move[1][1])


if __name__ == "__main__":
    unittest.main()
