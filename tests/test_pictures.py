"""[12]: pictures."""

import unittest

from circlekeep.errors import NotHad
from circlekeep.having import judge_holds
from circlekeep.pictures import boxes_of, picture, shape_of
from circlekeep.rows import Row
from helper import (BOOKS, ROW, STD, WIDE, made_of, random_book, random_row, random_thing, same_rng, slow_boxes,
                    slow_got, slow_picture, slow_shape)

LOCK = ("lock", "s", "K")


class PictureTest(unittest.TestCase):

    def test_by_hand(self):
        self.assertEqual(picture(Row(STD, ())), ((), ()))
        self.assertEqual(picture(ROW), ((("lock", "s", 0), 0), ((),)))
        self.assertEqual(picture(Row(STD, (LOCK,))), ((0,), ((),)))
        self.assertEqual(picture(row=Row(STD, ("a", "L", LOCK, "L"))), (("a", 0, 1, 0), ((), ())))

    def test_openings_of_boxes(self):
        signed = ("sign", "m", "K")
        self.assertEqual(picture(Row(STD, (signed,))), ((0,), ((("shown", (), "m"),),)))
        both = Row(STD, (signed, ("half", "K")))
        self.assertEqual(picture(both), ((0, 1), ((("shown", (), "m"), ("signed", (1,), "m")), ())))
        sealed = Row(STD, ("L", ("seal", ("pair", "t", "M"), ("half", "L")), ("seal", "t", "L")))
        self.assertEqual(boxes_of(sealed), ("L", "M"))
        self.assertEqual(picture(sealed), ((0, ("seal", ("pair", "t", 1), ("half", 0)), ("seal", "t", 0)), ((), ())))
        bag = Row(WIDE, (("bag", "A", ("hat", "B"), "C"), "B", ("cap", "A"), "C"))
        self.assertEqual(boxes_of(bag), ("B", "C", "A"))
        bag = Row(WIDE, (("bag", "A", ("hat", "B"), "C"), ("cap", "A"), "B"))
        self.assertEqual(boxes_of(bag), ("B", "C", "A"))
        urn = Row(WIDE, (("urn", "A", "B", "x"), "B"))
        self.assertEqual(boxes_of(urn), ("B", "A"))

    def test_boxes_in_the_order_in_which_they_are_got(self):
        row = Row(STD, (("pair", "Z", "Y"), "M", ("pair", "A", "Z")))
        self.assertEqual(boxes_of(row), ("M", "Z", "Y", "A"))
        self.assertEqual(boxes_of(row=Row(STD, ("a",))), ())
        self.assertEqual(picture(row)[0], (("pair", 1, 2), 0, ("pair", 3, 1)))

    def test_shapes(self):
        row = Row(STD, (("lock", "S", "K"), ("pair", "L", "a")))
        self.assertEqual(shape_of(row, ("lock", "S", "K")), 0)
        self.assertEqual(shape_of(row, "L"), 1)
        self.assertEqual(shape_of(row=row, thing="b"), "b")
        self.assertEqual(shape_of(row, ("half", ("pair", "L", ("lock", "S", "K")))), ("half", ("pair", 1, 0)))
        for thing in ("S", "K", ("half", "K"), ("lock", "S", "L"), "Z"):
            with self.assertRaises(NotHad) as told:
                shape_of(row, thing)
            self.assertTrue(judge_holds(row, thing, told.exception.paper))

    def test_random_ones(self):
        rng = same_rng(19)
        for _ in range(700):
            row = random_row(rng, rng.choice(BOOKS) if rng.random() < 0.5 else random_book(rng), 6, 4)
            self.assertEqual(picture(row), slow_picture(row))
            self.assertEqual(list(boxes_of(row)), slow_boxes(row))
            thing = random_thing(rng, row.book, 2)
            if made_of(thing, slow_got(row)):
                self.assertEqual(shape_of(row, thing), slow_shape(slow_boxes(row), thing))


if __name__ == "__main__":
    unittest.main()
