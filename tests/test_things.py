"""[4]: words, names, things."""

import unittest

from circlekeep.things import is_name, is_word, names_in, pieces_of, replaced, size_of, text_of
from helper import BOOKS, any_values, random_thing, same_rng, slow_pieces, slow_swapped, slow_text

LETTERS = "abcdefghijklmnopqrstuvwxyz"
SIGNS = "".join(chr(code) for code in range(32, 127)) + "\n"


def slow_is_word(value):
    return isinstance(value, str) and 1 <= len(value) <= 8 and all(sign in LETTERS for sign in value)


def slow_is_name(value):
    return (isinstance(value, str) and 1 <= len(value) <= 8 and value[0] in LETTERS.upper()
            and all(sign in LETTERS + "0123456789" for sign in value[1:]))


class WordsTest(unittest.TestCase):

    def check(self, value):
        for answer, wanted in ((is_word(value), slow_is_word(value)), (is_name(thing=value), slow_is_name(value)),
                               (is_word(thing=value), slow_is_word(value)), (is_name(value), slow_is_name(value))):
            self.assertIs(answer, wanted, repr(value))

    def test_lengths(self):
        for many in range(11):
            for first in ("a", "K", "z", "Z", "1"):
                self.check(first * many)
                self.check(first + "b" * many)
                self.check(first + "7" * many)

    def test_each_sign_at_each_place(self):
        for sign in SIGNS:
            for text in ("", "a", "K", "ab", "Kb", "K1"):
                for at in range(len(text) + 1):
                    self.check(text[:at] + sign + text[at:])

    def test_letters_of_other_scripts_are_none(self):
        for text in ("\u00e9", "a\u00e9", "K\u00e9", "\u00c9", "K\u0661", "K\u00b2", "\u0430", "\uff21", "K\uff11",
                     "a\r", "K\x1c"):
            self.check(text)

    def test_any_value(self):
        for value in any_values():
            self.check(value)


class ThingsTest(unittest.TestCase):

    def test_text_of_the_document(self):
        self.assertEqual(text_of(("lock", "a", ("pair", "K", "b"))), "lock(a,pair(K,b))")
        self.assertEqual(text_of("a"), "a")
        self.assertEqual(text_of(thing="K1"), "K1")

    def test_by_hand(self):
        thing = ("pair", ("lock", "a", "K"), ("lock", "a", "K"))
        self.assertEqual(pieces_of(thing), ("K", "a", ("lock", "a", "K"), thing))
        self.assertEqual(size_of(thing), 7)
        self.assertEqual(names_in(thing), ("K",))
        self.assertEqual(replaced(thing, "K", "a"), ("pair", ("lock", "a", "a"), ("lock", "a", "a")))
        self.assertEqual((pieces_of("a"), size_of("a"), names_in("a")), (("a",), 1, ()))
        self.assertEqual((pieces_of("K"), size_of("K"), names_in("K")), (("K",), 1, ("K",)))
        self.assertEqual(names_in(("pair", "L", ("pair", "K10", "K2"))), ("K10", "K2", "L"))

    def test_words_that_are_words_of_kinds(self):
        thing = ("lock", "lock", ("half", "pair"))
        self.assertEqual(text_of(thing), "lock(lock,half(pair))")
        self.assertEqual(pieces_of(thing), (("half", "pair"), "lock", thing, "pair"))
        self.assertEqual(size_of(thing), 4)
        self.assertEqual(replaced(thing, "K", "a"), thing)

    def test_pieces_ascend_by_their_texts(self):
        # As tuples and strings they could not be sorted at all; a bracket stands ahead of the letters.
        thing = ("pair", "pair", ("half", "pairs"))
        self.assertEqual([text_of(piece) for piece in pieces_of(thing)],
                         ["half(pairs)", "pair", "pair(pair,half(pairs))", "pairs"])

    def test_replaced_all_at_once(self):
        other = ("pair", "K", "L")
        self.assertEqual(replaced("K", "K", other), other)
        self.assertEqual(replaced(("lock", "K", ("half", "K")), "K", other), ("lock", other, ("half", other)))
        self.assertEqual(replaced(thing=("half", "K"), name="L", other="a"), ("half", "K"))
        self.assertEqual(replaced("K1", "K", "a"), "K1")

    def test_deep_ones(self):
        for deep in (12, 200):
            thing = "K"
            for _ in range(deep):
                thing = ("half", thing)
            self.assertEqual(text_of(thing), "half(" * deep + "K" + ")" * deep)
            self.assertEqual(size_of(thing), deep + 1)
            self.assertEqual(len(pieces_of(thing)), deep + 1)
            self.assertEqual(pieces_of(thing)[-1], thing)
            self.assertEqual(names_in(thing), ("K",))
            self.assertEqual(size_of(replaced(thing, "K", thing)), 2 * deep + 1)

    def test_random_ones(self):
        rng = same_rng(4)
        for _ in range(300):
            book = rng.choice(BOOKS)
            thing = random_thing(rng, book, rng.randint(0, 6))
            copy = eval(repr(thing))
            pieces = slow_pieces(thing)
            self.assertEqual(text_of(thing), slow_text(thing))
            self.assertEqual(size_of(thing), len(pieces))
            self.assertEqual(list(pieces_of(thing)), sorted(set(pieces), key=slow_text))
            self.assertEqual(list(names_in(thing)), sorted({piece for piece in pieces if slow_is_name(piece)}))
            other = random_thing(rng, book, 2)
            self.assertEqual(replaced(thing, "K", other), slow_swapped(thing, {"K": other}))
            self.assertEqual(thing, copy)


if __name__ == "__main__":
    unittest.main()
