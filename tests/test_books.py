"""[5] [6]: books and their texts."""

import unittest

from circlekeep.books import Book, standard_book
from circlekeep.errors import BadBook, BadText, BadThing
from circlekeep.things import text_of
from helper import BOOKS, ROW, SMALL, STD, WIDE, any_values, random_book, random_thing, same_rng, slow_needed, variants

TEXT = """kind half 1
kind lock 2
kind mark 1
kind pair 2
kind seal 2
kind sign 2
opening first pair 0
opening open lock 0 part 1
opening second pair 1
opening shown sign 0
opening signed sign 0 around half 1
opening unseal seal 0 inside 1 half"""


class BookTest(unittest.TestCase):

    def bad(self, part, kinds, openings):
        with self.assertRaises(BadBook) as told:
            Book(kinds, openings)
        self.assertEqual(told.exception.part, part, (kinds, openings))

    def test_attributes_and_names(self):
        book = Book(kinds=(("a", 1),), openings=(("b", "a", 0, ()),))
        self.assertEqual((book.kinds, book.openings), ((("a", 1),), (("b", "a", 0, ()),)))
        self.assertEqual(Book((("a", 3),), ()).openings, ())

    def test_kinds(self):
        good = (("b", "a", 0, ()),)
        for kinds in ((), None, [("a", 1)], (["a", 1],), (("a",),), (("a", 1, 1),), (("A", 1),), (("", 1),),
                      (("abcdefghi", 1),), (("a", 0),), (("a", 4),), (("a", True),), (("a", "1"),), (("a", -1),),
                      (("a", 1), ("a", 1)), (("a", 1), ("a", 2)), (("b", 1), ("a", 1)), ((["a"], 1),), "ab", {"a": 1},
                      (("a", 1), None), (("a", 10 ** 39),), ((1, "a"),), ("ab", 1)):
            self.bad("kinds", kinds, good)
            self.bad("kinds", kinds, None)

    def test_openings(self):
        kinds = (("one", 1), ("two", 2))
        for openings in (
                None, [], [("b", "one", 0, ())], "x", (None,), (("b", "one", 0),), (("b", "one", 0, (), ()),),
                (["b", "one", 0, ()],), (("B", "one", 0, ()),), (("", "one", 0, ()),), (("one", "one", 0, ()),),
                (("two", "one", 0, ()),), (("b", "three", 0, ()),), (("b", ["one"], 0, ()),), (("b", None, 0, ()),),
                (("b", "one", 1, ()),), (("b", "two", 2, ()),), (("b", "two", -1, ()),), (("b", "two", True, ()),),
                (("b", "two", "0", ()),), (("b", "two", 0, []),), (("b", "two", 0, None),),
                (("b", "two", 0, (None,)),),
                (("b", "two", 0, (("part", 0),) * 3),), (("b", "two", 0, ((),)),),
                (("b", "two", 0, ("part", 0)),),
                (("b", "one", 0, ()), ("b", "two", 0, ())), (("c", "one", 0, ()), ("b", "two", 0, ())),
                (("b", "one", 0, ()), ("b", "one", 0, ())), ((["b"], "one", 0, ()),)):
            self.bad("openings", kinds, openings)

    def test_needs(self):
        kinds = (("one", 1), ("two", 2))
        for need in (("part", 0), ("part", 1), ("around", "one", 1), ("inside", 0, "one")):
            Book(kinds, (("b", "two", 0, (need,)),))
            Book(kinds, (("b", "two", 1, (need, need)),))
            self.bad("openings", kinds, (("b", "two", 0, (list(need),)),))
            self.bad("openings", kinds, (("b", "two", 0, (need + (0,),)),))
            self.bad("openings", kinds, (("b", "two", 0, (need[:-1],)),))
        for need in (("part", 2), ("part", True), ("part", "0"), ("part", -1), ("part", None), ("Part", 0),
                     ("half", 0),
                     ("around", "two", 0), ("around", "none", 0), ("around", "one", 2), ("around", "one", True),
                     ("around", 0, "one"), ("around", ["one"], 0), ("around", None, 0), ("around", 0),
                     ("inside", 2, "one"), ("inside", 0, "two"), ("inside", 0, "none"), ("inside", False, "one"),
                     ("inside", "one", 0), ("inside", 0, ["one"]), ("inside", 0), ("part", 0, "one"), (None, 0),
                     (["part"], 0), (ROW, 0), (0, "part"), "part", ("outside", 0, "one"), ("part", 0, "one"),
                     ("around", "one", -1), ("inside", -1, "one"), ("", 0, "one"), (0, "one", "inside")):
            self.bad("openings", kinds, (("b", "two", 0, (need,)),))
        self.bad("openings", kinds, (("b", "one", 0, (("part", 1),)),))

    def test_any_values(self):
        for value in any_values():
            self.bad("kinds", value, ())
            self.bad("kinds", value, value)
            if value != ():
                self.bad("openings", STD.kinds, value)
        for value in variants(SMALL.kinds):
            try:
                Book(value, ())
            except BadBook as error:
                self.assertEqual(error.part, "kinds")
        for value in variants(SMALL.openings):
            try:
                self.assertEqual(Book(SMALL.kinds, value).openings, value)
            except BadBook as error:
                self.assertEqual(error.part, "openings")

    def test_equality(self):
        self.assertTrue(STD == standard_book())
        self.assertTrue(Book(WIDE.kinds, WIDE.openings) == WIDE)
        self.assertFalse(STD == WIDE)
        self.assertFalse(STD == Book(STD.kinds, ()))
        self.assertFalse(STD == Book((*STD.kinds, ("tin", 1)), STD.openings))
        self.assertTrue(STD != WIDE)
        for value in any_values():
            self.assertIs(STD == value, isinstance(value, Book) and value.kinds == STD.kinds)
        self.assertFalse(STD == (STD.kinds, STD.openings))

    def test_standard_book(self):
        self.assertEqual(standard_book().kinds,
                         (("half", 1), ("lock", 2), ("mark", 1), ("pair", 2), ("seal", 2), ("sign", 2)))
        self.assertEqual(dict((row[0], row[1:]) for row in STD.openings)["unseal"],
                         ("seal", 0, (("inside", 1, "half"),)))
        with self.assertRaises(TypeError):
            iter(STD)

    def test_is_thing(self):
        for thing in ("a", "K", "lock", ("lock", "a", "K"), ("half", ("half", "lock")), ("pair", "K", ("mark", "a"))):
            self.assertIs(STD.is_thing(thing), True)
        for thing in ("", "aB", (), ("lock",), ("lock", "a"), ("lock", "a", "b", "c"), ("half",), ("tin", "a"),
                      ["half", "a"],
                      ("half", ["a"]), ("half", None), ("half", 1), ("half", ("half",)), (("half",), "a"), ("K", "a"),
                      ("half", "a b"), ("half", ()), 1, None, True, STD, ROW, {}, ("pair", "a", ("pair", "a"))):
            self.assertIs(STD.is_thing(thing=thing), False)

    def test_is_thing_of_any_value(self):
        true = 0
        for value in any_values():
            self.assertIn(STD.is_thing(value), (True, False))
            true += STD.is_thing(value)
        self.assertEqual(true, 8)
        for value in variants(("lock", "a", ("pair", "K", "b"))):
            self.assertIn(STD.is_thing(value), (True, False))

    def test_read_thing(self):
        self.assertEqual(STD.read_thing("lock(a,pair(K,b))"), ("lock", "a", ("pair", "K", "b")))
        self.assertEqual(STD.read_thing(text="lock"), "lock")
        self.assertEqual(STD.read_thing("half(lock)"), ("half", "lock"))
        rng = same_rng(5)
        for _ in range(200):
            book = rng.choice(BOOKS)
            thing = random_thing(rng, book, 5)
            self.assertEqual(book.read_thing(text_of(thing)), thing)

    def test_read_thing_of_deep_texts(self):
        for deep in (12, 40, 200):
            thing = STD.read_thing("half(" * deep + "a" + ")" * deep)
            for _ in range(deep):
                self.assertEqual(thing[0], "half")
                thing = thing[1]
            self.assertEqual(thing, "a")

    def test_read_thing_bears_what_it_refuses(self):
        wrong = ["", " ", "a ", " a", "a\n", "aB", "abcdefghi", "K1(a)", "lock(a)", "lock(a,b,c)", "lock(a,b",
                 "lock(a,b))",
                 "lock(a,b)c", "lock (a,b)", "lock( a,b)", "lock(a, b)", "lock(a,,b)", "lock(,a,b)", "lock(a,b,)",
                 "lock()",
                 "tin(a)", "(a)", "half((a))", "half(a)(b)", "half(a)half(b)", ",", "()", ")", "(", "a,b", "half(a),",
                 "half(a)b",
                 "half(half)(a)", "half(a", "halfa)", "half(1)", "half(" * 200, ")" * 200, "half(" * 200 + ")" * 200,
                 "lock(a,pair(K,b)", "(" * 200 + "a" + ")" * 200, "lock(lock(a,K)K)", "lock(lock(a,K),K"]
        for value in [*wrong, *any_values(), ("half", "a"), ["a"]]:
            if isinstance(value, str) and value in ("a", "K", "abcdefgh", "Kabcdefg", "K1", "lock(a,K)", "lock",
                                                    "half(half(a))",
                                                    "half(" * 200 + "a" + ")" * 200):
                self.assertEqual(text_of(STD.read_thing(value)), value)
                continue
            with self.assertRaises(BadThing) as told:
                STD.read_thing(value)
            self.assertIs(told.exception.thing, value)

    def test_needed(self):
        self.assertEqual(STD.needed("first", ("pair", "a", "K")), ())
        self.assertEqual(STD.needed(opening="open", thing=("lock", "a", "K")), ("K",))
        self.assertEqual(STD.needed("signed", ("sign", "a", "K")), (("half", "K"),))
        self.assertEqual(STD.needed("unseal", ("seal", "a", ("half", "K"))), ("K",))
        for part in ("K", "half", "a", ("mark", "K"), ("lock", "half", "K")):
            self.assertIsNone(STD.needed("unseal", ("seal", "a", part)))
        book = Book((("h", 1), ("two", 2)), (("b", "two", 0, (("inside", 1, "h"),)),))
        self.assertIsNone(book.needed("b", ("two", "a", "hat")))
        self.assertEqual(book.needed("b", ("two", "a", ("h", "at"))), ("at",))
        self.assertEqual(WIDE.needed("dump", ("urn", "a", "b", "c")), ("a", "c"))
        self.assertEqual(WIDE.needed("fish", ("bag", "a", ("hat", "b"), "c")), (("cap", "a"), "b"))
        self.assertIsNone(WIDE.needed("fish", ("bag", "a", ("cap", "b"), "c")))
        self.assertEqual(WIDE.needed("pour", ("jar", "a", "b")), (("cap", "a"), ("cap", "a")))

    def test_needed_as_the_document_says(self):
        rng = same_rng(6)
        for _ in range(300):
            book = random_book(rng)
            thing = random_thing(rng, book, 3)
            for word, kind, _, _ in book.openings:
                if isinstance(thing, tuple) and thing[0] == kind:
                    self.assertEqual(book.needed(word, thing), slow_needed(book, word, thing))


class BookTextTest(unittest.TestCase):

    def wrong(self, line, value):
        with self.assertRaises(BadText) as told:
            Book.read(value)
        self.assertEqual(told.exception.line, line, repr(value))

    def test_text_of_the_standard_book(self):
        self.assertEqual(str(STD), TEXT)
        self.assertEqual(Book.read(TEXT), STD)
        self.assertEqual(Book.read(text=str(WIDE)), WIDE)
        self.assertIn("opening fish bag 2 around cap 0 inside 1 hat", str(WIDE).split("\n"))

    def test_random_books_are_read_back(self):
        rng = same_rng(7)
        for _ in range(300):
            book = random_book(rng)
            self.assertEqual(Book.read(str(book)), book)

    def test_no_string(self):
        for value in any_values():
            if not isinstance(value, str):
                self.wrong(0, value)
            else:
                self.wrong(1, value)

    def test_first_wrong_line(self):
        ahead = "kind cap 1\nkind pot 2\n"
        self.wrong(1, "")
        for line in ("", " ", "kind", "kind ", "kind tin", "kind tin 0", "kind tin 4", "kind tin 01", "kind tin 1 ",
                     "kind  tin 1",
                     " kind tin 1", "kind tin 1 1", "kind tin x", "kind Tin 1", "Kind tin 1", "kinds tin 1",
                     "kind tin +1",
                     "kind tin -1", "kind tin 10", "kind 1 tin", "kind abcdefghi 1", "kind tin 1\r", "opening",
                     "opening a",
                     "members 2", "opening a tin 0", "kind tin 1.0", "kind tin\t1"):
            self.wrong(1, line)
            self.wrong(1, line + "\n" + ahead + "x")
            self.wrong(3, ahead + line)
            self.wrong(3, ahead + line + "\nopening a cap 0")

    def test_lines_of_openings(self):
        ahead = "kind cap 1\nkind pot 2\nopening a cap 0\n"
        for line in ("opening b", "opening b cap", "opening b cap 1", "opening b pot 2", "opening b tin 0",
                     "opening B cap 0",
                     "opening b cap 00", "opening b cap 0 ", "opening  b cap 0", "opening b  cap 0",
                     "opening b cap 0 part",
                     "opening b cap 0 part 1", "opening b cap 0 part 00", "opening b cap 0 part 0 part 0 part 0",
                     "opening b cap 0 around cap", "opening b cap 0 around pot 0", "opening b cap 0 around cap 1",
                     "opening b cap 0 around tin 0", "opening b cap 0 around 0 cap", "opening b cap 0 inside 0",
                     "opening b cap 0 inside 0 pot", "opening b cap 0 inside 1 cap", "opening b cap 0 inside cap 0",
                     "opening b cap 0 part 0 x", "opening b cap 0 x", "opening b cap 0  part 0",
                     "opening b cap 0 0 part",
                     "opening cap cap 0", "opening pot cap 0", "opening a pot 0", "opening a cap 0", "opening b b 0",
                     "opening",
                     "kind tin 1", "kind zoo 1", "", "opening b cap 0 part 0 part 0 x"):
            self.wrong(4, ahead + line)
            self.wrong(4, ahead + line + "\nopening c cap 0")
        self.wrong(5, ahead + "opening c cap 0\nopening b cap 0")
        self.wrong(5, ahead + "opening c cap 0\nopening c pot 0")
        self.wrong(5, ahead + "opening c cap 0\nkind tin 1")
        self.wrong(5, ahead + "opening c cap 0\n")
        self.assertEqual(Book.read(ahead + "opening c pot 1 part 0 inside 0 cap").openings[1],
                         ("c", "pot", 1, (("part", 0), ("inside", 0, "cap"))))

    def test_kinds_do_not_ascend(self):
        self.wrong(2, "kind pot 2\nkind cap 1")
        self.wrong(2, "kind pot 2\nkind pot 1")
        self.wrong(2, "kind pot 2\nkind pot 3\nx")
        self.wrong(3, "kind cap 1\nkind pot 2\nkind cup 1")

    def test_kinds_called_like_needs(self):
        book = Book((("around", 1), ("inside", 1), ("part", 2)),
                    (("kind", "part", 0, (("around", "around", 0), ("inside", 1, "inside"))),
                     ("opening", "part", 1, ())))
        self.assertEqual(str(book).split("\n")[3], "opening kind part 0 around around 0 inside 1 inside")
        self.assertEqual(Book.read(str(book)), book)

    def test_a_line_changed_is_wrong_or_another_book(self):
        rng = same_rng(8)
        for _ in range(400):
            lines = str(rng.choice(BOOKS)).split("\n")
            at = rng.randrange(len(lines))
            words = lines[at].split(" ")
            words[rng.randrange(len(words))] = rng.choice(("", "kind", "0", "1", "2", "cap", "zz", "part", "inside",
                                                           "03"))
            lines[at] = " ".join(words)
            text = "\n".join(lines)
            try:
                self.assertEqual(str(Book.read(text)), text)
            except BadText as error:
                self.assertGreaterEqual(error.line, at + 1)
                ahead = "\n".join(lines[:error.line - 1])
                if ahead:
                    self.assertEqual(str(Book.read(ahead)), ahead)


if __name__ == "__main__":
    unittest.main()
