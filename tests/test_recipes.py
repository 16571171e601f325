"""[7]: recipes."""

import unittest

from circlekeep.recipes import is_recipe, recipe_text, value_of, written_size
from circlekeep.rows import Row
from helper import BOOKS, ROW, STD, WIDE, any_values, random_row, same_rng, slow_value, variants

OPENED = (("shown", 0), ("shown", 1), ("open", "open", (0, 1)))


def random_recipe(rng, row, most=8):
    """Some steps, many of which fail."""
    steps = []
    for place in range(rng.randint(1, most)):
        sort = rng.choice(("shown", "shown", "word", "make", "open"))
        if sort == "shown" and len(row):
            steps.append(("shown", rng.randrange(len(row))))
        elif sort == "make" and place:
            kind, count = rng.choice(row.book.kinds)
            steps.append(("make", kind, tuple(rng.randrange(place) for _ in range(count))))
        elif sort == "open" and place and row.book.openings:
            way = rng.choice(row.book.openings)
            steps.append(("open", way[0], tuple(rng.randrange(place) for _ in range(1 + len(way[3])))))
        else:
            steps.append(("word", rng.choice("ab")))
    return tuple(steps)


class IsRecipeTest(unittest.TestCase):

    def test_right_ones(self):
        for recipe in (OPENED, (("word", "zz"),), (("shown", 1),), (("word", "a"), ("make", "half", (0,))),
                       (("word", "a"), ("open", "first", (0,))), (("word", "a"), ("open", "open", (0, 0))),
                       (("word", "a"), ("word", "a")), (("shown", 0), ("make", "pair", (0, 0)),
                                                        ("open", "first", (1,)))):
            self.assertIs(is_recipe(ROW, recipe), True)
            self.assertIs(is_recipe(row=ROW, thing=recipe), True)
        self.assertIs(is_recipe(Row(STD, ()), (("word", "a"),)), True)
        self.assertIs(is_recipe(Row(WIDE, ()), (("word", "a"), ("open", "fish", (0, 0, 0)),
                                                ("make", "urn", (0, 1, 0)))), True)

    def test_wrong_ones(self):
        word = ("word", "a")
        steps = [
            ("shown", 2), ("shown", -1), ("shown", True), ("shown", "0"), ("shown",), ("shown", 0, 0), ["shown", 0],
            ("shown", None), ("shown", 10 ** 39), ("word", "K"), ("word", ""), ("word", 1), ("word", ["a"]), ("word",),
            ("word", "a", "a"), ("make", "half", (1,)), ("make", "half", (2,)), ("make", "half", (-1,)),
            ("make", "half", ()),
            ("make", "half", (0, 0)), ("make", "half", [0]), ("make", "half", 0), ("make", "half", (True,)),
            ("make", "half", (False,)), ("make", "half", ("0",)), ("make", "tin", (0,)), ("make", "first", (0,)),
            ("make", ["half"], (0,)), ("make", None, (0,)), ("make", "half"), ("make", "half", (0,), ()),
            ("open", "first", (1,)),
            ("open", "first", ()), ("open", "first", (0, 0)), ("open", "open", (0,)), ("open", "open", (0, 0, 0)),
            ("open", "open", [0, 0]), ("open", "open", (0, True)), ("open", "pair", (0,)), ("open", ["first"], (0,)),
            ("open", "none", (0,)), ("open", {}, (0,)), ("Open", "first", (0,)), ("close", "first", (0,)), (), None,
            "shown",
            (None, 0), (["shown"], 0), (ROW, 0), (0, "shown"), 0, {},
        ]
        for step in steps:
            self.assertIs(is_recipe(ROW, (word, step)), False, step)
            self.assertIs(is_recipe(ROW, (word, step, word)), False, step)
        for wrong in ((), [], [word], None, word, "word a", 0, {}, ROW, (OPENED,)):
            self.assertIs(is_recipe(ROW, wrong), False)
        self.assertIs(is_recipe(Row(STD, ()), (("shown", 0),)), False)
        self.assertIs(is_recipe(ROW.only((0,)), OPENED), False)

    def test_numbers_of_later_steps(self):
        self.assertIs(is_recipe(ROW, (("make", "half", (0,)),)), False)
        self.assertIs(is_recipe(ROW, (("make", "half", (1,)), ("word", "a"))), False)
        self.assertIs(is_recipe(ROW, (("shown", 0), ("open", "open", (0, 2)), ("shown", 1))), False)

    def test_any_value(self):
        for value in [*any_values(), *variants(OPENED), *variants((("word", "a"), ("make", "pair", (0, 0))))]:
            self.assertIn(is_recipe(ROW, value), (True, False))
        self.assertIs(is_recipe(ROW, (("word", "a"),) * 5000), True)
        self.assertIs(is_recipe(ROW, (("word", "a"),) * 5000 + (("shown", True),)), False)


class ValueTest(unittest.TestCase):

    def test_by_hand(self):
        self.assertEqual(value_of(ROW, OPENED), "s")
        self.assertEqual(value_of(row=ROW, recipe=(("word", "zz"),)), "zz")
        self.assertEqual(value_of(ROW, (("word", "a"), ("shown", 0), ("make", "pair", (1, 0)))),
                         ("pair", ("lock", "s", "K"), "a"))
        self.assertEqual(value_of(ROW, (("shown", 1), ("word", "a"), ("make", "lock", (1, 0)),
                                        ("open", "open", (2, 0)))), "a")

    def test_failing_steps(self):
        self.assertIsNone(value_of(ROW, (("shown", 0), ("word", "a"), ("open", "open", (0, 1)))))
        self.assertIsNone(value_of(ROW, (("shown", 1), ("open", "first", (0,)))))
        failed = (("shown", 0), ("open", "first", (0,)))
        self.assertIsNone(value_of(ROW, failed + (("make", "half", (1,)),)))
        self.assertIsNone(value_of(ROW, failed + (("make", "half", (1,)), ("open", "shown", (2,)))))
        self.assertIsNone(value_of(ROW, failed + (("make", "pair", (0, 1)), ("open", "first", (2,)))))
        self.assertIsNone(value_of(ROW, (("shown", 1), ("open", "first", (0,)), ("shown", 0),
                                         ("open", "open", (2, 1)))))
        self.assertEqual(value_of(ROW, failed + (("shown", 1),)), "K")
        self.assertEqual(value_of(ROW, failed + (("make", "half", (0,)),)), ("half", ("lock", "s", "K")))

    def test_each_need(self):
        row = Row(STD, (("sign", "m", "K"), ("half", "K"), ("seal", "t", ("half", "L")), "L", ("seal", "t", "half"),
                        "K"))
        for last, wanted in (((0, 1), "m"), ((0, 5), None), ((2, 1), None)):
            steps = (*[("shown", at) for at in range(6)], ("open", "signed", last))
            self.assertEqual(value_of(row, steps), wanted)
        for last, wanted in (((2, 3), "t"), ((2, 1), None), ((4, 3), None), ((0, 3), None)):
            steps = (*[("shown", at) for at in range(6)], ("open", "unseal", last))
            self.assertEqual(value_of(row, steps), wanted)
        two = Row(WIDE, (("bag", "a", ("hat", "L"), "X"), "L", ("urn", ("tin", "b"), "L", "Y"),
                         ("bag", "a", "hat", "X"), ("urn", "b", "L", "Y")))
        ahead = (*[("shown", at) for at in range(5)], ("word", "a"), ("make", "cap", (5,)), ("word", "b"))
        for way, last, wanted in (("fish", (0, 6, 1), "X"), ("fish", (0, 1, 6), None), ("fish", (0, 6, 6), None),
                                  ("fish", (3, 6, 1), None),
                                  ("sift", (2, 7, 1), "Y"), ("sift", (2, 1, 7), None), ("sift", (2, 7, 7), None),
                                  ("sift", (4, 7, 1), None)):
            self.assertEqual(value_of(two, (*ahead, ("open", way, last))), wanted)

    def test_things_of_many_pieces_nest_deep(self):
        recipe = (("shown", 1), *[("make", "half", (at,)) for at in range(199)])
        thing = "K"
        for _ in range(199):
            thing = ("half", thing)
        self.assertEqual(value_of(ROW, recipe), thing)

    def test_random_ones(self):
        rng = same_rng(11)
        came = 0
        for _ in range(1500):
            row = random_row(rng, rng.choice(BOOKS), 4, 2)
            recipe = random_recipe(rng, row)
            self.assertIs(is_recipe(row, recipe), True)
            self.assertEqual(value_of(row, recipe), slow_value(row, recipe))
            came += slow_value(row, recipe) is not None
        self.assertGreater(came, 500)


class WrittenTest(unittest.TestCase):

    def test_text_of_the_document(self):
        recipe = (("shown", 0), ("word", "a"), ("make", "pair", (0, 1)), ("open", "first", (2,)))
        self.assertEqual(recipe_text(recipe), "shown 0;word a;make pair 0 1;open first 2")
        self.assertEqual(recipe_text(recipe=(("shown", 10 ** 30),)), "shown " + str(10 ** 30))

    def test_size_by_hand(self):
        recipe = (("shown", 0), ("word", "a"), ("make", "pair", (0, 1)), ("open", "first", (2,)))
        self.assertEqual([written_size(recipe[:many]) for many in range(1, 5)], [1, 1, 3, 4])
        self.assertEqual(written_size(recipe=(("shown", 7), ("shown", 9), ("open", "open", (0, 1)), ("word", "a"))), 1)
        self.assertEqual(written_size((("shown", 9), ("make", "urn", (0, 0, 0)), ("make", "urn", (0, 1, 1)))), 10)

    def test_size_of_great_length(self):
        double = (("shown", 0), *[("make", "pair", (at, at)) for at in range(199)])
        self.assertEqual(written_size(double), 2 ** 200 - 1)
        opened = (("shown", 50), *[("open", "open", (at, at)) for at in range(150)])
        self.assertEqual(written_size(opened), 2 ** 151 - 1)
        self.assertEqual(recipe_text(double).count(";"), 199)
        triple = (("word", "a"), *[("make", "urn", (at, at, at)) for at in range(100)])
        self.assertEqual(written_size(triple), (3 ** 101 - 1) // 2)


if __name__ == "__main__":
    unittest.main()
