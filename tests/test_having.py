"""[8] [9] [10]: what can be had, papers, sizes."""

import unittest

from circlekeep.books import Book
from circlekeep.errors import Mismatch, NotHad
from circlekeep.having import basis, got_things, has_all, is_had, judge, judge_holds, least_size, recipe_for
from circlekeep.recipes import is_recipe, value_of, written_size
from circlekeep.rows import Row
from helper import (BOOKS, ROW, SMALL, STD, WIDE, any_values, made_of, random_book, random_row, random_thing,
                    same_rng, slow_boxes,
                    slow_closed, slow_got, slow_text, slow_value, values_by_size, variants)

LOCK = ("lock", "s", "K")


def chain(many):
    """Locked keys, the key of each of them within the one behind it; the last thing is the first key."""
    locked = [("lock", ("pair", f"K{at + 1}", f"S{at}"), f"K{at}") for at in reversed(range(many - 1))]
    return Row(STD, (*locked, "K0"))


def some_thing(rng, row):
    """A piece of a row, or another thing."""
    return rng.choice(row.pieces) if row.pieces and rng.random() < 0.6 else random_thing(rng, row.book, 2)


class GotTest(unittest.TestCase):

    def test_by_hand(self):
        self.assertEqual(got_things(Row(STD, ())), ())
        self.assertEqual(got_things(ROW), (LOCK, "K", "s"))
        self.assertEqual(got_things(row=Row(STD, ("a", "K", "a", "K"))), ("a", "K"))
        self.assertEqual(got_things(Row(STD, (LOCK,))), (LOCK,))
        self.assertEqual(got_things(Row(STD, (("pair", "b", "a"),))), (("pair", "b", "a"), "b", "a"))

    def test_looked_for_from_the_first_one_each_time(self):
        inner = ("lock", ("pair", "a", "b"), "K")
        row = Row(STD, (inner, ("pair", ("half", "L"), "K"), ("pair", "c", "M")))
        self.assertEqual(got_things(row), (
            *row.things, ("half", "L"), "K", ("pair", "a", "b"), "c", "M", "a", "b"))
        early = Row(STD, (("lock", "x", "L"), ("lock", "L", "K"), "K", ("pair", "y", "z")))
        self.assertEqual(got_things(early), (*early.things, "L", "x", "y", "z"))

    def test_openings_in_order_and_parts_that_are_made(self):
        row = Row(SMALL, (("duo", "a", ("box", "a")),))
        # The word is got although it could be made; the box is no part that the first opening gives.
        self.assertEqual(got_things(row), (row.things[0], "a", ("box", "a")))
        peek = Row(SMALL, (("box", "K"), "K"))
        self.assertEqual(got_things(peek), (("box", "K"), "K"))
        self.assertEqual(got_things(Row(SMALL, (("box", "K"),))), (("box", "K"), "K"))

    def test_around_is_had_made_or_shown(self):
        signed = ("sign", "m", "K")
        self.assertEqual(basis(Row(STD, (signed,))), (signed,))
        self.assertEqual(got_things(Row(STD, (signed,))), (signed, "m"))
        book = Book(STD.kinds, tuple(row for row in STD.openings if row[0] != "shown"))
        self.assertEqual(got_things(Row(book, (signed,))), (signed,))
        self.assertEqual(got_things(Row(book, (signed, ("half", "K")))), (signed, ("half", "K"), "m"))
        self.assertEqual(got_things(Row(book, (signed, "K"))), (signed, "K", "m"))

    def test_inside(self):
        sealed = ("seal", "t", ("half", "L"))
        self.assertEqual(got_things(Row(STD, (sealed, "L"))), (sealed, "L", "t"))
        self.assertEqual(got_things(Row(STD, (sealed, ("half", "L")))), (sealed, ("half", "L")))
        self.assertEqual(got_things(Row(STD, (("seal", "t", "L"), "L"))), (("seal", "t", "L"), "L"))

    def test_twelve_locks(self):
        row = chain(12)
        self.assertTrue(is_had(row, "S10"))
        self.assertEqual([thing for thing in got_things(row) if thing[0] == "K"], [f"K{at}" for at in range(12)])
        self.assertFalse(is_had(row.only(tuple(range(11))), "K1"))
        self.assertEqual(got_things(row.only(tuple(range(11)))), row.things[:11])

    def test_eleven_deep(self):
        thing = "S"
        for at in range(11):
            thing = ("lock", thing, f"K{at}")
        keys = tuple(f"K{at}" for at in range(11))
        self.assertTrue(is_had(Row(STD, (*keys, thing)), "S"))
        for at in range(11):
            row = Row(STD, (thing, *keys[:at], *keys[at + 1:]))
            self.assertFalse(is_had(row, "S"))
            self.assertEqual(len(got_things(row)), 11 + (10 - at))

    def test_random_ones(self):
        rng = same_rng(12)
        for _ in range(700):
            row = random_row(rng, rng.choice(BOOKS) if rng.random() < 0.5 else random_book(rng), 6, 4)
            self.assertEqual(list(got_things(row)), slow_got(row))
            self.assertEqual(list(basis(row)), sorted(slow_boxes(row), key=slow_text))


class BasisTest(unittest.TestCase):

    def test_by_hand(self):
        self.assertEqual(basis(Row(STD, (("lock", "a", "K"), "K"))), ("K",))
        self.assertEqual(basis(Row(STD, (("lock", "a", "K"),))), (("lock", "a", "K"),))
        self.assertEqual(basis(Row(STD, ("a", ("half", "a")))), ())
        self.assertEqual(basis(row=Row(STD, (("pair", "L", "K"), ("mark", "M")))), ("K", "L", ("mark", "M")))

    def test_all_that_is_had_is_made_of_it(self):
        rng = same_rng(13)
        for _ in range(300):
            row = random_row(rng, rng.choice(BOOKS))
            thing = some_thing(rng, row)
            self.assertEqual(is_had(row, thing), made_of(thing, basis(row)))


class HadTest(unittest.TestCase):

    def test_by_hand(self):
        for thing in ("s", "K", "zz", LOCK, ("pair", "K", ("half", "s"))):
            self.assertIs(is_had(ROW, thing), True)
        for thing in ("S", "K1", ("half", "L"), ("tin", "a"), ("lock", "a"), None, 1, True, [], ["s"], "s ", ""):
            self.assertIs(is_had(row=ROW, thing=thing), False)
        self.assertIs(is_had(Row(STD, (LOCK,)), "s"), True)
        self.assertIs(is_had(Row(STD, (("lock", "S", "K"),)), "S"), False)
        self.assertIs(is_had(Row(STD, ()), "a"), True)

    def test_any_value(self):
        for value in [*any_values(), *variants(LOCK)]:
            self.assertIs(is_had(ROW, value), STD.is_thing(value) and made_of(value, slow_got(ROW)))

    def test_has_all(self):
        self.assertIs(has_all(ROW, Row(STD, ("s", "K", "zz", ("pair", LOCK, "K")))), True)
        self.assertIs(has_all(row=ROW, other=Row(STD, ("L",))), False)
        self.assertIs(has_all(ROW, Row(STD, ())), True)
        self.assertIs(has_all(Row(STD, ()), ROW), False)
        self.assertIs(has_all(Row(STD, (LOCK,)), ROW), False)
        self.assertIs(has_all(Row(STD, ("K",)), ROW), True)
        for other in (Row(WIDE, ()), Row(Book(STD.kinds, ()), ("K",))):
            with self.assertRaises(Mismatch) as told:
                has_all(ROW, other)
            self.assertEqual(told.exception.part, "book")

    def test_has_all_of_random_rows(self):
        rng = same_rng(14)
        for _ in range(300):
            row = random_row(rng, rng.choice(BOOKS))
            other = random_row(rng, row.book)
            self.assertEqual(has_all(row, other), all(made_of(thing, slow_got(row)) for thing in slow_got(other)))


class PaperTest(unittest.TestCase):

    def test_judge_by_hand(self):
        word, recipe = judge(ROW, "s")
        self.assertEqual((word, value_of(ROW, recipe)), ("had", "s"))
        self.assertEqual(judge(row=Row(STD, (("lock", "S", "K"),)), thing="S")[0], "closed")
        self.assertIs(judge_holds(ROW, "S", ("closed", ("K",))), True)
        self.assertIs(judge_holds(row=ROW, about="S", thing=("closed", ("K", LOCK, "s"))), True)

    def test_random_ones(self):
        rng = same_rng(15)
        for _ in range(500):
            row = random_row(rng, rng.choice(BOOKS) if rng.random() < 0.5 else random_book(rng))
            thing = some_thing(rng, row)
            paper = judge(row, thing)
            had = made_of(thing, slow_got(row))
            self.assertEqual(paper[0], "had" if had else "closed")
            self.assertTrue(judge_holds(row, thing, paper))
            if had:
                self.assertTrue(is_recipe(row, paper[1]))
                self.assertEqual(slow_value(row, paper[1]), thing)
            else:
                self.assertTrue(slow_closed(row, thing, paper[1]))
                self.assertEqual(list(paper[1]), sorted(set(paper[1]), key=slow_text))

    def test_closed_sets_whoever_made_them(self):
        rng = same_rng(16)
        held = 0
        for _ in range(1500):
            row = random_row(rng, rng.choice(BOOKS))
            about = some_thing(rng, row)
            things = [thing for thing in slow_got(row) if rng.random() < 0.85]
            things += [random_thing(rng, row.book, 2) for _ in range(rng.choice((0, 0, 1, 2)))]
            things = tuple(sorted(set(things), key=slow_text))
            wanted = slow_closed(row, about, things)
            self.assertIs(judge_holds(row, about, ("closed", things)), wanted)
            held += wanted
            if len(things) > 1:
                self.assertIs(judge_holds(row, about, ("closed", things[::-1])), False)
                self.assertIs(judge_holds(row, about, ("closed", (things[0], *things))), False)
            self.assertIs(judge_holds(row, about, ("closed", list(things))), False)
            self.assertIs(judge_holds(row, about, ["closed", things]), False)
        self.assertGreater(held, 200)

    def test_closed_sets_by_hand(self):
        row = Row(STD, (("lock", "S", "K"),))
        locked = row.things[0]
        for things in ((locked,), ("L", locked), (("half", "K"), locked), (locked, "zz")):
            self.assertIs(judge_holds(row, "S", ("closed", things)), True)
        for things in ((), ("K", locked), ("S", locked), ("K", "L"), (locked, locked), (locked, "L"), ("zz", locked),
                       (locked, None),
                       (locked, ["zz"]), (locked, ""), (locked, ("tin", "a")), (locked, ("half",)), ("K",)):
            self.assertIs(judge_holds(row, "S", ("closed", things)), False)
        for word in ("had", "Closed", "open", None, ("closed",), 0):
            self.assertIs(judge_holds(row, "S", (word, (locked,))), False)
        # Its parts can be made, though it stands nowhere in the row, and it is closed without its own parts.
        self.assertIs(judge_holds(row, "S", ("closed", (locked, ("pair", "a", "b")))), True)
        self.assertIs(judge_holds(row, "S", ("closed", (locked, ("pair", "a", "L")))), False)
        self.assertIs(judge_holds(row, "a", ("closed", (locked,))), False)
        self.assertIs(judge_holds(row, ("half", "S"), ("closed", (locked,))), True)
        self.assertIs(judge_holds(row, ("half", "S"), ("closed", (("half", "S"), locked))), False)

    def test_recipes_in_papers(self):
        good = (("shown", 0), ("shown", 1), ("open", "open", (0, 1)))
        self.assertIs(judge_holds(ROW, "s", ("had", good)), True)
        self.assertIs(judge_holds(ROW, "s", ("had", (("word", "s"),))), True)
        self.assertIs(judge_holds(ROW, "K", ("had", good)), False)
        for paper in (("had", good, ()), ("had",), ("closed", good), ("had", list(good)), ["had", good],
                      ("had", good[2:]), good, (),
                      ("had", ()), ("had", None), ("had", (("shown", 2),)), ("had", (("shown", True),)), (None, good),
                      (good, "had"),
                      ("had", (("shown", 1), ("shown", 1), ("open", "open", (0, 1)))), ("had", ("shown", 1)), "had",
                      None):
            self.assertIs(judge_holds(ROW, "s", paper), False, paper)

    def test_recipes_of_any_size_in_papers(self):
        for kind, count, book in (("pair", 2, STD), ("urn", 3, WIDE)):
            row = Row(book, ("K",))
            grown = (("shown", 0), *[("make", kind, (at,) * count) for at in range(199)])
            self.assertIs(judge_holds(row, "K", ("had", grown)), False)
            self.assertIs(judge_holds(row, "K", ("had", (*grown, ("shown", 0)))), True)
        opened = (*[("open", "first", (199 + at,)) for at in range(198)],)
        grown = (("shown", 0), *[("make", "pair", (at, at)) for at in range(199)])
        row = Row(STD, ("K",))
        self.assertIs(judge_holds(row, ("pair", "K", "K"), ("had", grown + opened)), True)
        self.assertIs(judge_holds(row, "K", ("had", grown + opened)), False)

    def test_any_value(self):
        paper = ("closed", (("half", "L"), ("lock", "S", "K")))
        row = Row(STD, (("lock", "S", "K"),))
        had = ("had", (("shown", 0), ("shown", 1), ("open", "open", (0, 1))))
        for value in [*any_values(), *variants(paper)]:
            self.assertIn(judge_holds(row, "S", value), (True, False))
        for value in [*any_values(), *variants(had)]:
            holds = judge_holds(ROW, "s", value)
            self.assertIn(holds, (True, False))
            if holds:
                self.assertEqual(slow_value(ROW, value[1]), "s")


class SizeTest(unittest.TestCase):

    def test_by_hand(self):
        self.assertEqual(least_size(ROW, "s"), 1)
        self.assertEqual(least_size(Row(STD, (("lock", "S", "K"), "K")), "S"), 3)
        self.assertEqual(least_size(row=Row(STD, (LOCK, "K")), thing=("pair", LOCK, LOCK)), 3)
        self.assertEqual(least_size(Row(STD, ("K",)), ("pair", ("half", "K"), ("half", "K"))), 5)
        self.assertEqual(recipe_for(Row(STD, ("K",)), "K"), (("shown", 0),))
        self.assertEqual(recipe_for(ROW, "K"), (("shown", 1),))
        self.assertEqual(recipe_for(ROW, ("mark", "K")), (("shown", 1), ("make", "mark", (0,))))

    def test_written_out_and_not_in_steps(self):
        # In few steps the key is got by way of a pair that is used twice; written out that is longer.
        long = ("pair", ("pair", ("pair", "X", "a"), "b"), "c")
        row = Row(STD, (long, ("pair", "d", ("pair", "X", "e"))))
        self.assertEqual(least_size(row, "X"), 3)
        self.assertEqual(written_size(recipe_for(row, "X")), 3)
        shared = Row(STD, (("pair", "X", "a"),))
        four = ("pair", ("pair", "X", "X"), ("pair", "X", "X"))
        self.assertEqual(least_size(shared, four), 11)
        self.assertEqual(written_size(recipe_for(row=shared, thing=four)), 11)

    def test_least_of_all_recipes(self):
        rng = same_rng(17)
        told = 0
        for _ in range(120):
            book = random_book(rng) if rng.random() < 0.7 else SMALL
            row = random_row(rng, book, 3, 3)
            if len(book.kinds) > 3:
                continue
            by_size, _ = values_by_size((row,), ("a", "b"), 4)
            least = {}
            for size in sorted(by_size):
                for (value,) in by_size[size]:
                    least.setdefault(value, size)
            for value, size in least.items():
                self.assertEqual(least_size(row, value), size, (str(book), row.things, value))
                told += 1
        self.assertGreater(told, 1000)

    def test_size_is_that_of_the_recipe(self):
        rng = same_rng(18)
        for _ in range(400):
            row = random_row(rng, rng.choice(BOOKS), 6, 4)
            thing = some_thing(rng, row)
            if made_of(thing, slow_got(row)):
                recipe = recipe_for(row, thing)
                self.assertTrue(is_recipe(row, recipe))
                self.assertEqual(slow_value(row, recipe), thing)
                self.assertEqual(written_size(recipe), least_size(row, thing))
            else:
                for ask in (recipe_for, least_size):
                    with self.assertRaises(NotHad) as told:
                        ask(row, thing)
                    self.assertTrue(slow_closed(row, thing, told.exception.paper[1]))
                    self.assertTrue(judge_holds(row, thing, told.exception.paper))

    def test_sizes_grow_great(self):
        row = chain(12)
        self.assertEqual((least_size(row, ("pair", "K11", "S10")), least_size(row, "S10")), (33, 34))
        sizes = [least_size(row, f"K{at}") for at in range(12)]
        self.assertEqual(sizes, [1 + 3 * at for at in range(12)])
        # Each key opens both needs of the next one, so the sizes double.
        book = Book((("two", 3),), (("ope", "two", 0, (("part", 1), ("part", 2))),))
        twice = Row(book, (*[("two", f"K{at + 1}", f"K{at}", f"K{at}") for at in range(11)], "K0"))
        self.assertEqual(least_size(twice, "K11"), 3 * 2 ** 11 - 2)
        self.assertEqual(written_size(recipe_for(twice, "K11")), 3 * 2 ** 11 - 2)


if __name__ == "__main__":
    unittest.main()
