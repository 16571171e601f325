"""[4] [6]: rows and their texts."""

import unittest

from circlekeep.books import Book
from circlekeep.errors import BadRow, BadText, BadThing, Mismatch
from circlekeep.rows import Row
from circlekeep.things import names_in, pieces_of, text_of
from helper import (BOOKS, ROW, SMALL, STD, WIDE, any_values, random_row, random_thing, same_rng, slow_swapped,
                    slow_text, variants)

LOCK = ("lock", "s", "K")
FEW = Row(STD, (LOCK, "a", "K", LOCK))


class RowTest(unittest.TestCase):

    def test_attributes(self):
        row = Row(book=STD, things=(("pair", "L", "K"), "a", "K"))
        self.assertEqual(row.book, STD)
        self.assertEqual(row.things, (("pair", "L", "K"), "a", "K"))
        self.assertEqual(row.names, ("K", "L"))
        self.assertEqual(row.pieces, ("K", "L", "a", ("pair", "L", "K")))
        empty = Row(STD, ())
        self.assertEqual((empty.things, empty.names, empty.pieces, len(empty), list(empty)), ((), (), (), 0, []))

    def test_no_tuple(self):
        for value in any_values():
            if not isinstance(value, tuple):
                with self.assertRaises(BadRow) as told:
                    Row(STD, value)
                self.assertEqual(told.exception.part, "things")

    def test_first_item_that_is_no_thing(self):
        for value in any_values():
            if not STD.is_thing(value):
                for things in ((value,), ("a", value), (LOCK, value, None), (value, ("tin", "a")), (value, value)):
                    with self.assertRaises(BadThing) as told:
                        Row(STD, things)
                    self.assertIs(told.exception.thing, value)
            else:
                self.assertEqual(Row(STD, (value,)).things, (value,))
        with self.assertRaises(BadThing) as told:
            Row(STD, ("a", ("urn", "a", "b", "c"), ()))
        self.assertEqual(told.exception.thing, ("urn", "a", "b", "c"))

    def test_any_tuple(self):
        for value in [*any_values(), *variants(FEW.things)]:
            if isinstance(value, tuple):
                wrong = [item for item in value if not STD.is_thing(item)]
                if wrong:
                    with self.assertRaises(BadThing) as told:
                        Row(STD, value)
                    self.assertIs(told.exception.thing, wrong[0])
                else:
                    self.assertEqual(Row(STD, value).things, value)

    def test_length_and_going_through(self):
        self.assertEqual(len(FEW), 4)
        self.assertEqual(list(FEW), [LOCK, "a", "K", LOCK])
        self.assertEqual([thing for thing in FEW], list(FEW.things))

    def test_sum(self):
        both = FEW + Row(Book(STD.kinds, STD.openings), ("b", "a"))
        self.assertEqual(both, Row(STD, (LOCK, "a", "K", LOCK, "b", "a")))
        self.assertEqual(both.names, ("K",))
        self.assertEqual(FEW + Row(STD, ()), FEW)
        self.assertEqual(len(FEW), 4)
        for other in (Row(WIDE, ()), Row(WIDE, ("a",)), Row(Book(STD.kinds, ()), ("a",))):
            for one, two in ((FEW, other), (other, FEW)):
                with self.assertRaises(Mismatch) as told:
                    one + two
                self.assertEqual(told.exception.part, "book")

    def test_with_thing(self):
        self.assertEqual(FEW.with_thing("K"), Row(STD, (LOCK, "a", "K", LOCK, "K")))
        self.assertEqual(FEW.with_thing(thing=("half", "L")).names, ("K", "L"))
        for value in any_values():
            if STD.is_thing(value):
                self.assertEqual(FEW.with_thing(value).things[-1], value)
            else:
                with self.assertRaises(BadThing) as told:
                    FEW.with_thing(value)
                self.assertIs(told.exception.thing, value)
        self.assertEqual(len(FEW), 4)

    def test_only(self):
        self.assertEqual(FEW.only((0, 2)), Row(STD, (LOCK, "K")))
        self.assertEqual(FEW.only(places=()), Row(STD, ()))
        self.assertEqual(FEW.only((0, 1, 2, 3)), FEW)
        self.assertEqual(FEW.only((3,)).things, (LOCK,))

    def test_replaced(self):
        other = ("pair", "K", "L")
        self.assertEqual(FEW.replaced("K", other).things, (("lock", "s", other), "a", other, ("lock", "s", other)))
        self.assertEqual(FEW.replaced(name="K", thing=other).names, ("K", "L"))
        self.assertEqual(FEW.replaced("M", "a"), FEW)
        self.assertEqual(FEW.things, (LOCK, "a", "K", LOCK))

    def test_equality(self):
        self.assertTrue(FEW == Row(Book(STD.kinds, STD.openings), (LOCK, "a", "K", LOCK)))
        self.assertFalse(FEW == Row(STD, (LOCK, "K", "a", LOCK)))
        self.assertFalse(Row(STD, ()) == Row(WIDE, ()))
        self.assertFalse(Row(STD, ("a",)) == Row(STD, ("a", "a")))
        self.assertTrue(FEW != ROW)
        for value in [*any_values(), FEW.things, list(FEW)]:
            self.assertIs(FEW == value, False)
            self.assertIs(ROW == value, value is ROW)

    def test_random_ones(self):
        rng = same_rng(9)
        for _ in range(200):
            row = random_row(rng, rng.choice(BOOKS))
            pieces = {piece for thing in row for piece in pieces_of(thing)}
            self.assertEqual(list(row.pieces), sorted(pieces, key=slow_text))
            self.assertEqual(list(row.names), sorted({name for thing in row for name in names_in(thing)}))
            other = random_thing(rng, row.book, 2)
            self.assertEqual(row.replaced("K", other).things,
                             tuple(slow_swapped(thing, {"K": other}) for thing in row.things))


class RowTextTest(unittest.TestCase):

    def wrong(self, line, value, book=STD):
        with self.assertRaises(BadText) as told:
            Row.read(book, value)
        self.assertEqual(told.exception.line, line, repr(value))

    def test_by_hand(self):
        self.assertEqual(str(FEW), "row 4\nlock(s,K)\na\nK\nlock(s,K)")
        self.assertEqual(str(Row(STD, ())), "row 0")
        self.assertEqual(Row.read(STD, "row 0"), Row(STD, ()))
        self.assertEqual(Row.read(book=STD, text=str(FEW)), FEW)

    def test_reading_back(self):
        rng = same_rng(10)
        for _ in range(200):
            row = random_row(rng, rng.choice(BOOKS))
            self.assertEqual(str(row), "\n".join([f"row {len(row)}", *map(text_of, row)]))
            self.assertEqual(Row.read(row.book, str(row)), row)
        many = Row(STD, ("a",) * 1000)
        self.assertEqual(Row.read(STD, str(many)), many)
        deep = Row(STD, (STD.read_thing("half(" * 200 + "a" + ")" * 200),))
        self.assertEqual(Row.read(STD, str(deep)), deep)

    def test_any_value(self):
        for value in any_values():
            if not isinstance(value, str):
                self.wrong(0, value)
            elif value not in ("row 0", "row 1\na"):
                self.wrong(1, value)
        self.assertEqual(Row.read(STD, "row 1\na").things, ("a",))

    def test_first_line(self):
        for line in ("", "row", "row ", " row 1", "row  1", "row 1 ", "row 01", "row 00", "row +1", "row -1", "row x",
                     "row 1.0", "row 1 1",
                     "Row 1", "rows 1", "a", "row 1_0", "row \u0661", "row \u00b2", "row\t1", "row -0", "row 0x1",
                     "row one"):
            self.wrong(1, line)
            self.wrong(1, line + "\na")
            self.wrong(1, line + "\n?")

    def test_lines_of_things(self):
        for line in ("", " ", "a ", " a", "a b", "lock(a)", "tin(a)", "half(a", "half(a))", "1", "a\r", "row 1"):
            self.wrong(2, "row 1\n" + line)
            self.wrong(3, "row 3\na\n" + line + "\na")
            self.wrong(3, "row 3\na\n" + line)
            self.wrong(3, "row 1\na\n" + line)
        self.assertEqual(Row.read(WIDE, "row 1\ntin(a)").things, (("tin", "a"),))
        self.wrong(2, "row 1\nhalf(a)", SMALL)

    def test_too_few_lines(self):
        self.wrong(2, "row 1")
        self.wrong(4, "row 3\na\nb")
        self.wrong(4, "row 10\na\nb")
        self.wrong(4, "row 20\na\nb")
        self.wrong(3, "row 20\na\n?")
        for digits in (18, 19, 20, 40, 3990, 4500, 6000):
            self.wrong(2, "row " + "9" * digits)
            self.wrong(3, "row 1" + "0" * digits + "\na")
            self.wrong(2, "row 1" + "0" * digits + "\n?")
            self.wrong(1, "row 0" + "1" * digits)

    def test_too_many_lines(self):
        self.wrong(2, "row 0\na")
        self.wrong(2, "row 0\n")
        self.wrong(2, "row 0\n?")
        self.wrong(3, "row 1\na\na")
        self.wrong(3, "row 1\na\n")
        self.wrong(3, "row 1\na\na\na")
        self.wrong(2, "row 1\n?\na")
        self.wrong(11, "row 9\n" + "\n".join(["a"] * 10))
        self.wrong(12, "row 11\n" + "\n".join(["a"] * 10))


if __name__ == "__main__":
    unittest.main()
