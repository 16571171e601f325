"""[11] [13]: which rows are alike, and papers."""

import unittest

from circlekeep.books import Book
from circlekeep.errors import Mismatch
from circlekeep.likeness import compare, compare_holds, is_alike
from circlekeep.recipes import is_recipe
from circlekeep.rows import Row
from helper import (BOOKS, ROW, SMALL, STD, WIDE, any_values, changed_row, random_book, random_row, random_thing,
                    same_rng, slow_alike,
                    slow_boxes, slow_picture, slow_text, slow_value, values_by_size, variants)


def row(*things):
    return Row(STD, things)


def texts(pair):
    return slow_text(pair[0]), slow_text(pair[1])


PAIRS = (
    (row("K"), row("L"), True), (row("K", "K"), row("K", "L"), False), (row("a"), row("b"), False),
    (row("a"), row("K"), False),
    (row(), row(), True), (row(("lock", "s", "K")), row("K"), True), (row(("lock", "s", "K")),
                                                                      row(("lock", "t", "L")), True),
    (row(("lock", "s", "K"), "K"), row(("lock", "u", "K"), "K"), False),
    (row(("lock", "s", "K"), "K"), row(("lock", "s", "L"), "L"), True),
    (row(("lock", "s", "K"), "K"), row(("lock", "s", "L"), "K"), False),
    (row(("lock", "s", "K"), ("lock", "s", "K")), row(("lock", "s", "K"), ("lock", "s", "L")), False),
    (row(("mark", "s")), row(("mark", "t")), False), (row(("mark", "K")), row(("mark", "L")), True),
    (row(("mark", "K"), "K"), row(("mark", "K"), "L"), False), (row(("mark", "K")), row(("lock", "s", "L")), True),
    (row(("pair", "a", "K")), row(("pair", "a", "L")), True), (row(("pair", "a", "K")), row(("pair", "K", "a")),
                                                               False),
    (row(("pair", "K", "K")), row(("pair", "K", "L")), False), (row(("pair", "a", "K")), row("K"), False),
    (row(("sign", "m", "K")), row("K"), False), (row(("sign", "m", "K")), row(("sign", "m", "L")), True),
    (row(("sign", "m", "K"), ("half", "K")), row(("sign", "m", "K"), ("half", "L")), False),
    (row(("seal", "t", ("half", "L")), "L"), row(("seal", "t", "L"), "L"), False),
    (row(("seal", "t", ("half", "L"))), row(("seal", "u", "M")), True),
)


class AlikeTest(unittest.TestCase):

    def test_by_hand(self):
        for one, other, wanted in PAIRS:
            self.assertIs(is_alike(one, other), wanted, (one.things, other.things))
            self.assertIs(is_alike(one=other, other=one), wanted)

    def test_mismatch(self):
        for ask in (is_alike, compare):
            for other, part in ((Row(WIDE, ("a", "b")), "book"), (Row(WIDE, ()), "book"), (Row(STD, ("a",)), "things"),
                                (Row(Book(STD.kinds, ()), ROW.things), "book"), (Row(STD, ("a", "b", "c")), "things")):
                with self.assertRaises(Mismatch) as told:
                    ask(ROW, other)
                self.assertEqual(told.exception.part, part)
                with self.assertRaises(Mismatch) as told:
                    ask(other, ROW)
                self.assertEqual(told.exception.part, part)
        self.assertTrue(is_alike(ROW, Row(Book(STD.kinds, STD.openings), ROW.things)))

    def test_no_recipe_tells_alike_rows_apart(self):
        rng = same_rng(20)
        apart = alike = 0
        for _ in range(250):
            book = SMALL if rng.random() < 0.3 else random_book(rng)
            one = random_row(rng, book, 3, 2)
            other = changed_row(rng, one)
            if len(book.kinds) > 3:
                continue
            by_size, differs = values_by_size((one, other), ("a", "b"), 4)
            left = {}
            right = {}
            for values in by_size.values():
                for here, there in values:
                    differs |= left.setdefault(here, there) != there or right.setdefault(there, here) != here
            if differs:
                apart += 1
                self.assertFalse(is_alike(one, other), (str(book), one.things, other.things))
            alike += is_alike(one, other)
        self.assertGreater(apart, 20)
        self.assertGreater(alike, 50)

    def test_alike_exactly_if_pictures_are_equal(self):
        rng = same_rng(21)
        for _ in range(500):
            one = random_row(rng, rng.choice(BOOKS) if rng.random() < 0.5 else random_book(rng), 6, 4)
            other = changed_row(rng, one)
            self.assertEqual(is_alike(one, other), slow_picture(one) == slow_picture(other))


class CompareTest(unittest.TestCase):

    def check_paper(self, one, other, paper, alike):
        self.assertTrue(compare_holds(one, other, paper), (one.things, other.things, paper))
        if alike:
            self.assertEqual((paper[0], len(paper)), ("alike", 2))
            self.assertTrue(slow_alike(one, other, paper[1]))
            self.assertEqual(list(paper[1]), sorted(set(paper[1]), key=texts))
            return
        self.assertEqual(len(paper), {"comes": 2, "same": 3}[paper[0]])
        for recipe in paper[1:]:
            self.assertTrue(is_recipe(one, recipe))
        here = [slow_value(one, recipe) for recipe in paper[1:]]
        there = [slow_value(other, recipe) for recipe in paper[1:]]
        if paper[0] == "comes":
            self.assertNotEqual(here[0] is None, there[0] is None)
        else:
            self.assertNotIn(None, here + there)
            self.assertNotEqual(here[0] == here[1], there[0] == there[1])

    def test_by_hand(self):
        for one, other, alike in PAIRS:
            self.check_paper(one, other, compare(one, other), alike)
            self.check_paper(other, one, compare(one=other, other=one), alike)

    def test_random_ones(self):
        rng = same_rng(22)
        told = {True: 0, False: 0}
        for _ in range(900):
            one = random_row(rng, rng.choice(BOOKS) if rng.random() < 0.5 else random_book(rng), 6, 4)
            other = changed_row(rng, one)
            alike = slow_picture(one) == slow_picture(other)
            told[alike] += 1
            self.check_paper(one, other, compare(one, other), alike)
        self.assertGreater(min(told.values()), 200)


class HoldsTest(unittest.TestCase):

    def holds(self, one, other, paper, wanted):
        self.assertIs(compare_holds(one, other, paper), wanted, (one.things, other.things, paper))

    def test_pairs_by_hand(self):
        one = row(("lock", "s", "K"), "L", "a")
        other = row("K", "M", "a")
        good = (("L", "M"), (("lock", "s", "K"), "K"))
        self.holds(one, other, ("alike", good), True)
        self.assertIs(compare_holds(one=one, other=other, thing=("alike", good)), True)
        # Further pairs, of words and of things that stand nowhere, may be there.
        for more in (("a", "a"), ("z", "z"), ("Z", "Z"), ("Z", "L"), ("Z", ("mark", "Z")),
                     (("half", "L"), ("half", "M")),
                     (("half", "Z"), "L"), (("sign", "a", "Z"), ("sign", "a", "Y")),
                     (("lock", "a", "Y"), "X"), (("pair", "a", "a"), ("pair", "a", "a"))):
            self.holds(one, other, ("alike", tuple(sorted((*good, more), key=texts))), True)
        for more in (("a", "b"), ("a", "Z"), ("Z", "a"), ("L", "Z"), ("Z", "M"), (("half", "L"), "Y"),
                     ("Y", ("half", "M")),
                     (("half", "L"), ("half", "N")), ("Z", ("pair", "a", "b")),
                     (("pair", "Y", "Z"), ("pair", "Z", "Y")),
                     (("sign", "a", "Y"), ("sign", "b", "Y")), (("sign", "a", "Y"), "Z"), (("lock", "a", "L"), "Z"),
                     ("Z", ("lock", "a", "M")), ("K", "L"), (("sign", "a", "Y"), ("mark", "Y"))):
            self.holds(one, other, ("alike", tuple(sorted((*good, more), key=texts))), False)
        self.holds(one, other, ("alike", good[:1]), False)
        self.holds(one, other, ("alike", good[1:]), False)
        self.holds(one, other, ("alike", ()), False)

    def test_forms_of_pairs(self):
        one = row("K", "L")
        other = row("M", "N")
        good = (("K", "M"), ("L", "N"))
        self.holds(one, other, ("alike", good), True)
        for wrong in (good[::-1], (*good, good[1]), (good[0], *good), (("M", "K"), ("N", "L")),
                      (("K", "N"), ("L", "M")),
                      (("K", "M"), ("K", "N"), ("L", "N")), (("K", "M"), ("L", "M")),
                      (("K", "M"), ("K", "M"), ("L", "N")), list(good),
                      (["K", "M"], good[1]), (("K", "M", "M"), good[1]), (("K",), good[1]), (("K", None), good[1]),
                      ("KM", "LN"),
                      (("K", "M"), ("L", "N"), ("tin", "a")), (("K", "M"), ("L", "N"), (("tin", "a"), "a")),
                      (("K", "M"), ("L", ("half",))), None, "KM", (None,), ((),)):
            self.holds(one, other, ("alike", wrong), False)
        for wrong in (("alike",), ("alike", good, ()), ["alike", good], good, ("Alike", good), ("comes", good),
                      ("same", good, good),
                      (good, "alike"), (None, good), ()):
            self.holds(one, other, wrong, False)

    def test_left_from_right(self):
        one = row(("pair", "K", "L"))
        other = row(("pair", "L", "K"))
        self.holds(one, other, ("alike", (("K", "L"), ("L", "K"))), True)
        self.holds(one, other, ("alike", (("K", "L"), ("L", "K"), (("pair", "K", "L"), ("pair", "L", "K")))), True)
        self.holds(one, other, ("alike", ((("pair", "K", "L"), ("pair", "L", "K")),)), False)
        self.holds(one, one, ("alike", (("K", "K"), ("L", "L"))), True)
        self.holds(row("K"), row(("pair", "a", "b")), ("alike", (("K", ("pair", "a", "b")),)), False)
        self.holds(row(("pair", "a", "b")), row("K"), ("alike", ((("pair", "a", "b"), "K"),)), False)
        self.holds(row("K"), row(("pair", "A", "B")), ("alike", (("K", ("pair", "A", "B")),)), False)
        self.holds(row("K"), row(("lock", "a", "B")), ("alike", (("K", ("lock", "a", "B")),)), True)
        self.holds(row("K", "L"), row(("lock", "a", "B"), "B"), ("alike", (("K", ("lock", "a", "B")), ("L", "B"))),
                   False)

    def test_what_is_needed_has_to_be_the_partner(self):
        # The parts K, L and M have no partners, so nothing but the third rule tells of them.
        one = row(("sign", "m", "K"), ("half", "K"))
        for key, wanted in (("M", True), ("L", False)):
            other = row(("sign", "m", "M"), ("half", key))
            pairs = ((("half", "K"), ("half", key)), (("sign", "m", "K"), ("sign", "m", "M")))
            self.holds(one, other, ("alike", pairs), wanted)
            self.holds(other, one, ("alike", tuple(sorted([pair[::-1] for pair in pairs], key=texts))), wanted)
            self.assertEqual(is_alike(one, other), wanted)

    def test_pairs_whoever_made_them(self):
        rng = same_rng(23)
        told = {True: 0, False: 0}
        for _ in range(2500):
            one = random_row(rng, rng.choice(BOOKS) if rng.random() < 0.5 else random_book(rng), 4, 3)
            other = changed_row(rng, one)
            pairs = [pair for pair in zip(slow_boxes(one), slow_boxes(other)) if rng.random() < 0.9]
            for _ in range(rng.choice((0, 0, 1, 2))):
                left = rng.choice((*one.pieces, "a"))
                right = rng.choice((*other.pieces, "a"))
                pairs.append(rng.choice(((left, right), (left, left), ("b", "b"), ("Z", "Z"),
                                         (random_thing(rng, one.book, 1), random_thing(rng, one.book, 1)),
                                         ("Y", random_thing(rng, one.book, 1, ("Z",))))))
            pairs = tuple(sorted(set(pairs), key=texts))
            wanted = slow_alike(one, other, pairs)
            self.holds(one, other, ("alike", pairs), wanted)
            told[wanted] += 1
        self.assertGreater(min(told.values()), 500)

    def test_recipes(self):
        opened = (("shown", 0), ("shown", 1), ("open", "open", (0, 1)))
        one = row(("lock", "s", "K"), "K")
        other = row(("lock", "u", "K"), "K")
        wrong = row(("lock", "s", "L"), "K")
        self.holds(one, other, ("comes", opened), False)
        self.holds(one, wrong, ("comes", opened), True)
        self.holds(wrong, one, ("comes", opened), True)
        self.holds(one, other, ("same", opened, (("word", "s"),)), True)
        self.holds(one, other, ("same", (("word", "u"),), opened), True)
        self.holds(one, other, ("same", (("word", "t"),), opened), False)
        self.holds(one, one, ("same", opened, (("word", "s"),)), False)
        self.holds(one, wrong, ("same", opened, (("word", "s"),)), False)
        self.holds(wrong, one, ("same", opened, (("word", "s"),)), False)
        self.holds(wrong, one, ("same", (("word", "s"),), opened), False)
        self.holds(one, wrong, ("same", (("word", "s"),), opened), False)
        self.holds(wrong, wrong, ("same", opened, opened), False)
        for word in ("Same", "comes", "alike", None, ("same",)):
            self.holds(one, other, (word, opened, (("word", "s"),)), False)
        for word in ("Comes", "same", "alike", None, ("comes",)):
            self.holds(one, wrong, (word, opened), False)
        for paper in (("comes", opened, opened), ("comes",), ("same", opened), ("same", opened, (("word", "s"),), ()),
                      ["comes", opened],
                      ("comes", list(opened)), ("comes", ()), ("comes", (("shown", 2),)), ("alike", opened),
                      (opened, "comes")):
            self.holds(one, wrong, paper, False)
            self.holds(one, other, paper, False)

    def test_recipes_of_any_size(self):
        for kind, count, book in (("pair", 2, STD), ("urn", 3, WIDE), ("bag", 3, WIDE)):
            grown = [("make", kind, (at,) * count) for at in range(199)]
            first, second = [(("shown", index), *grown) for index in (0, 1)]
            one = Row(book, ("K", "K"))
            other = Row(book, ("K", "L"))
            self.holds(one, other, ("comes", first), False)
            self.holds(one, other, ("same", first, second), True)
            self.holds(one, other, ("same", first, first), False)
            self.holds(other, one, ("same", second, (("shown", 1),)), False)
            self.holds(one, one, ("same", first, second), False)
        split = (("shown", 0), *[("make", "pair", (at, at)) for at in range(150)], ("make", "lock", (150, 150)),
                 ("shown", 1),
                 *[("make", "pair", (at, at)) for at in range(152, 302)], ("open", "open", (151, 302)))
        self.holds(row("K", "K"), row("K", "L"), ("comes", split), True)
        self.holds(row("K", "L"), row("M", "L"), ("comes", split), False)

    def test_rows_that_do_not_match(self):
        for other in (Row(WIDE, ROW.things[1:]), Row(STD, ()), Row(Book(STD.kinds, ()), ROW.things)):
            for paper in (("alike", ()), ("alike", (("K", "K"),)), ("comes", (("shown", 0),)), None):
                self.holds(ROW, other, paper, False)
        self.holds(Row(STD, ()), Row(WIDE, ()), ("alike", ()), False)
        self.holds(Row(STD, ()), Row(STD, ()), ("alike", ()), True)

    def test_any_value(self):
        one = row(("lock", "s", "K"), "L")
        for value in [*any_values(), *variants(compare(one, one)), *variants(("comes", (("shown", 0),))),
                      *variants(("same", (("shown", 0),), (("word", "a"), ("make", "half", (0,)))))]:
            self.assertIn(compare_holds(one, one, value), (True, False))
            self.assertIn(compare_holds(one, row("K", "a"), value), (True, False))


if __name__ == "__main__":
    unittest.main()
