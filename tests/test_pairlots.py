"""[14]: pair lots and cores."""

import unittest

from circlekeep.errors import Mismatch
from circlekeep.likeness import is_alike
from circlekeep.pairlots import core_of, is_even, is_pair_lot, joined, pair_lot
from circlekeep.rows import Row
from helper import (BOOKS, ROW, STD, WIDE, any_values, changed_row, random_book, random_row, random_thing, same_rng,
                    slow_boxes, slow_text, variants)

LOCK = ("lock", "s", "K")


def texts(pair):
    return slow_text(pair[0]), slow_text(pair[1])


def lot(pairs):
    return tuple(sorted(set(pairs), key=texts))


class LotTest(unittest.TestCase):

    def test_is_pair_lot(self):
        for good in ((), (("a", "b"),), (("K", "L"), ("K", "M")), (("K", "a"), (LOCK, "L")), (("a", "a"), ("b", "a")),
                     (("half", "K"), (("half", "a"), "K"))):
            self.assertIs(is_pair_lot(STD, good), True)
            self.assertIs(is_pair_lot(book=STD, thing=good), True)
            self.assertIs(is_pair_lot(STD, list(good)), False)
        for wrong in ((("K", "M"), ("K", "L")), (("K", "L"), ("K", "L")), (("b", "a"), ("a", "b")), ("KL",),
                      (("K",),), (("K", "L", "M"),),
                      (["K", "L"],), (("K", None),), ((None, "K"),), (("K", ("tin", "a")),), ("K", "L"), (("", "a"),),
                      (("K", 1),),
                      (("a", "b"), None), (LOCK,), ((("half", "a"), "K"), ("half", "K")), (("K", ["L"]),)):
            self.assertIs(is_pair_lot(STD, wrong), False, wrong)
        self.assertIs(is_pair_lot(WIDE, (("K", ("tin", "a")),)), True)

    def test_any_value(self):
        for value in [*any_values(), *variants((("K", LOCK), ("a", "b")))]:
            self.assertIn(is_pair_lot(STD, value), (True, False))

    def test_pair_lot(self):
        self.assertEqual(pair_lot(Row(STD, ("b", "K", "b")), Row(STD, ("c", LOCK, "c"))), (("K", LOCK), ("b", "c")))
        self.assertEqual(pair_lot(one=Row(STD, ()), other=Row(STD, ())), ())
        self.assertEqual(pair_lot(Row(STD, ("a", "a")), Row(STD, ("c", "b"))), (("a", "b"), ("a", "c")))
        for other, part in ((Row(WIDE, ()), "book"), (Row(WIDE, ("a", "b")), "book"), (Row(STD, ("a",)), "things")):
            with self.assertRaises(Mismatch) as told:
                pair_lot(ROW, other)
            self.assertEqual(told.exception.part, part)


class CoreTest(unittest.TestCase):

    def test_by_hand(self):
        self.assertEqual(core_of(STD, ()), ())
        self.assertEqual(core_of(STD, (("a", "a"),)), ())
        self.assertIsNone(core_of(STD, (("a", "b"),)))
        self.assertIsNone(core_of(book=STD, pairs=(("K", "L"), ("K", "M"))))
        self.assertEqual(core_of(STD, (("K", "L"), (LOCK, ("lock", "s", "L")))), (("K", "L"),))
        self.assertIsNone(core_of(STD, (("K", "L"), (LOCK, ("lock", "s", "K")))))
        self.assertEqual(core_of(STD, ((LOCK, "X"), (("pair", "Z", "A"), ("pair", "B", "C")))),
                         (("A", "C"), ("Z", "B"), (LOCK, "X")))
        self.assertIs(is_even(STD, ()), True)
        self.assertIs(is_even(STD, (("K", "a"),)), False)
        self.assertIs(is_even(book=STD, pairs=(("K", LOCK),)), True)

    def test_joined_by_hand(self):
        self.assertEqual(joined(STD, (), "a", "a"), ())
        self.assertIsNone(joined(STD, (), "a", "b"))
        self.assertEqual(joined(book=STD, core=(), thing="K", other="L"), (("K", "L"),))
        self.assertEqual(joined(STD, (("K", "L"),), "K", "L"), (("K", "L"),))
        self.assertIsNone(joined(STD, (("K", "L"),), "K", "M"))
        self.assertIsNone(joined(STD, (("K", "L"),), "M", "L"))
        self.assertEqual(joined(STD, ((LOCK, "X"),), "A", "B"), (("A", "B"), (LOCK, "X")))
        self.assertIsNone(joined(STD, ((LOCK, "X"),), "K", "B"))
        self.assertEqual(joined(STD, ((LOCK, ("lock", "s", "M")),), "K", "M"), (("K", "M"),))

    def test_random_ones(self):
        rng = same_rng(24)
        told = {True: 0, False: 0}
        for _ in range(600):
            book = rng.choice(BOOKS) if rng.random() < 0.5 else random_book(rng)
            one = random_row(rng, book, 5, 3)
            other = changed_row(rng, one)
            pairs = pair_lot(one, other)
            even = is_even(book, pairs)
            told[even] += 1
            self.assertEqual(pairs, lot(zip(one, other)))
            self.assertTrue(is_pair_lot(book, pairs))
            self.assertEqual(even, is_alike(one, other))
            core = core_of(book, pairs)
            if even:
                self.assertEqual(core, lot(zip(slow_boxes(one), slow_boxes(other))))
                self.assertTrue(is_pair_lot(book, core))
                self.assertEqual(core_of(book, core), core)
                self.assertTrue(is_even(book, core))
                for left, right in core:
                    self.assertEqual(joined(book, core, left, right), core)
            else:
                self.assertIsNone(core)
            self.check_order(rng, book, list(zip(one, other)), core)
        self.assertGreater(min(told.values()), 150)

    def check_order(self, rng, book, pairs, core):
        """Joined in any order, some of them twice, the pairs have the core of their lot."""
        pairs = pairs + [pair for pair in pairs if rng.random() < 0.3]
        rng.shuffle(pairs)
        found = ()
        for left, right in pairs:
            found = joined(book, found, left, right)
            if found is None:
                break
        self.assertEqual(found, core)

    def test_equal_cores_are_even_with_the_same_pairs(self):
        rng = same_rng(25)
        for _ in range(400):
            book = rng.choice(BOOKS)
            one = random_row(rng, book, 4, 3)
            other = changed_row(rng, one)
            core = core_of(book, pair_lot(one, other))
            if core is not None:
                left = random_thing(rng, book, 2)
                right = left if rng.random() < 0.5 else random_thing(rng, book, 2)
                longer = pair_lot(one.with_thing(left), other.with_thing(right))
                self.assertEqual(joined(book, core, left, right), core_of(book, longer))


if __name__ == "__main__":
    unittest.main()
