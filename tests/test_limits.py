"""[2]: valid arguments at the limits are answered, and without long waiting (a slow way would never end here)."""

import unittest

from circlekeep.books import Book
from circlekeep.circles import Circle
from circlekeep.errors import TooMany
from circlekeep.having import basis, got_things, has_all, judge, judge_holds, least_size, recipe_for
from circlekeep.keeping import first_opening, first_run, holders, judge_keeping, keeps
from circlekeep.keepchecks import keeping_holds
from circlekeep.knowing import knows, knows_that, possible_states
from circlekeep.learning import first_learning, judge_learning, learning_holds
from circlekeep.likeness import compare, compare_holds, is_alike
from circlekeep.mates import mates_behind
from circlekeep.mends import least_left_out, least_needs, places_of, without_shows
from circlekeep.pairlots import core_of, joined, pair_lot
from circlekeep.pictures import picture
from circlekeep.recipes import is_recipe, value_of, written_size
from circlekeep.respectchecks import policy_holds
from circlekeep.respecting import judge_policy, respects
from circlekeep.rows import Row
from circlekeep.runs import after, seen, seers
from circlekeep.tellchecks import telling_holds
from circlekeep.telling import are_alike_for, first_telling, is_covered, judge_telling
from circlekeep.things import size_of, text_of
from circlekeep.worlds import behind, worlds_of
from helper import STD, all_groups, random_circle, same_rng, slow_got, slow_picture, slow_run

GRAND = Book(
    (("a", 3), ("b", 3), ("c", 3), ("d", 2), ("e", 1), ("f", 1), ("g", 2), ("h", 1)),
    tuple(sorted([
        ("oa", "a", 0, (("part", 1), ("around", "e", 2))), ("ob", "a", 1, (("inside", 2, "f"), ("part", 0))),
        ("oc", "a", 2, ()), ("od", "b", 0, (("around", "f", 1), ("around", "h", 2))), ("oe", "b", 1, (("part", 2),)),
        ("of", "b", 2, ()), ("og", "c", 0, (("part", 0), ("part", 0))), ("oh", "c", 2, (("inside", 1, "e"),)),
        ("oi", "d", 0, (("part", 1),)), ("oj", "d", 1, ()), ("ok", "g", 0, ()), ("ol", "h", 0, ())])))


def grand_row():
    """Twelve things with 120 pieces, each of which opens the next one, the last one first."""
    things = []
    for at in range(11):
        inner = ("d", ("e", f"S{at}"), f"K{at + 1}")
        things.append(("a", inner, f"K{at}", ("f", ("g", "z", f"K{at}"))))
    return Row(GRAND, (*things[::-1], "K0"))


def deep_row():
    """Things twelve deep, locked within each other."""
    thing = "S"
    for at in range(11):
        thing = ("lock", thing, f"K{at}")
    return Row(STD, (thing, *[f"K{at}" for at in range(11)]))


class LimitsTest(unittest.TestCase):

    def check_row(self, row, secret):
        self.assertEqual(list(got_things(row)), slow_got(row))
        self.assertEqual(picture(row), slow_picture(row))
        self.assertTrue(judge_holds(row, secret, judge(row, secret)))
        recipe = recipe_for(row, secret)
        self.assertTrue(is_recipe(row, recipe))
        self.assertEqual(value_of(row, recipe), secret)
        self.assertEqual(written_size(recipe), least_size(row, secret))
        self.assertTrue(judge_holds(row, "None", judge(row, "None")))
        self.assertTrue(has_all(row, Row(row.book, basis(row))))

    def check_pair(self, row, other, alike):
        self.assertEqual(is_alike(row, other), alike)
        self.assertTrue(compare_holds(row, other, compare(row, other)))
        core = core_of(row.book, pair_lot(row, other))
        self.assertEqual(core is not None, alike)
        found = ()
        for left, right in zip(row, other):
            found = None if found is None else joined(row.book, found, left, right)
        self.assertEqual(found, core)

    def test_grand_row(self):
        row = grand_row()
        self.assertGreater(sum(size_of(thing) for thing in row), 100)
        self.check_row(row, "K0")
        self.check_row(row, ("e", "K0"))
        self.check_pair(row, row, True)
        self.check_pair(row, row.replaced("S3", "X"), True)
        self.check_pair(row, row.replaced("S3", "S4"), is_alike(row, row.replaced("S3", "S4")))
        self.check_pair(row, row.replaced("K3", "K4"), False)

    def test_deep_row(self):
        row = deep_row()
        self.check_row(row, "S")
        self.check_pair(row, row.replaced("S", "X"), True)
        self.check_pair(row, row.replaced("S", "x"), False)
        self.check_pair(row, row.replaced("K5", ("lock", "a", "K12")), True)

    def test_sixty_pieces_that_are_all_made(self):
        whole = ("pair", "K", "a")
        while size_of(whole) < 58:
            whole = ("pair", whole, "L")
        row = Row(STD, (whole, whole))
        self.check_row(row, whole)
        self.check_pair(row, row.replaced("L", "M"), True)

    def test_many_things_that_the_program_made_itself(self):
        # What it returned may be passed on whatever its size.
        row = Row(STD, ("K", ("lock", "s", "K")) * 150)
        self.check_row(row, "s")
        self.check_pair(row, row.replaced("K", "L"), True)
        deep = value_of(row, (("shown", 0), *[("make", "half", (at,)) for at in range(199)]))
        self.assertEqual(size_of(deep), 200)
        self.assertEqual(STD.read_thing(text_of(deep)), deep)
        self.check_row(Row(STD, (deep,)), deep)
        self.check_pair(Row(STD, (deep,)), Row(STD, (deep,)).replaced("K", "L"), True)

    def test_papers_of_great_things(self):
        # The plain ways of the one row come to things at the other one that grow with each step.
        inner = "a"
        for _ in range(28):
            inner = ("pair", inner, inner) if size_of(inner) < 15 else ("half", inner)
        one = Row(STD, (inner, "K"))
        other = Row(STD, ("K", inner))
        paper = compare(one, other)
        self.assertTrue(compare_holds(one, other, paper))
        self.assertNotEqual(paper[0], "alike")


def grand_thing(number):
    """A thing of twenty pieces."""
    thing = ("lock", ("pair", f"S{number}", "a"), f"K{number}")
    while size_of(thing) < 19:
        thing = ("pair", thing, f"L{number}")
    return ("half", thing) if size_of(thing) == 19 else thing


def grand_circle():
    """A circle with all that is allowed: each deed shows another thing in each state, to others each time."""
    things = [grand_thing(number) for number in range(8)]
    groups = ((0, 1), (2, 3), (0,), (1, 2, 3), (3,), (0, 2))
    deeds = []
    for at, name in enumerate("abcdef"):
        shown = [(things[(at + 2 * state) % 7], groups[at]) if state % 3 == at % 2 else None for state in range(6)]
        moves = tuple([((at + state + 1) % 6, show) for state, show in enumerate(shown)])
        deeds.append((name, at % 4, things[6] if at == 5 else None, moves))
    return Circle(STD, 4, 6, tuple(deeds), ((things[1], things[1]), (things[3],), (), (things[5],) * 12))


class CircleTest(unittest.TestCase):

    def test_grand_circle(self):
        circle = grand_circle()
        worlds = worlds_of(circle, 20000)
        self.assertGreater(len(worlds), 1000)
        for world in worlds[::50]:
            for name in circle.names:
                self.assertIn(behind(circle, world, name), worlds)
        with self.assertRaises(TooMany):
            keeps(circle, (0,), "Z")
        self.assertIs(keeps(circle, (0, 1, 2, 3), "K1", 20000), True)
        paper = judge_keeping(circle, (0, 3), "Z", 20000)
        self.assertEqual([world for world, _ in paper[1]], list(worlds))
        self.assertIs(keeping_holds(circle, (0, 3), "Z", paper), True)
        run = first_run(circle, (1, 2), grand_thing(6), 20000)
        self.assertEqual(judge_keeping(circle, (1, 2), grand_thing(6), 20000)[1], run)
        self.assertIsNotNone(first_opening(circle, "f", 20000))
        self.assertEqual(holders(circle, "Z", 20000), ())
        run = tuple("abcdef" * 10)
        for group in ((0,), (0, 1, 2, 3)):
            world, things, told = slow_run(circle, run, group)
            self.assertEqual(after(circle, run), world)
            self.assertEqual(seen(circle, run, group).things, things)
            self.assertEqual(seers(circle, run, group), told)
        self.assertEqual(Circle.read(str(circle)), circle)


def deeds_of(*told):
    """Deeds of member 0 by their moves, told as (next, thing) or (next, None): all is shown to member 0."""
    return tuple([(name, 0, None, tuple([move and (move[0], move[1] and (move[1], (0,))) for move in moves]))
                  for name, *moves in told])


class TellingTest(unittest.TestCase):

    def test_things_that_all_look_alike(self):
        # Behind a run each thing that was seen could have been each of the others.
        deeds = tuple([(word, 0, None, ((0, (grand_thing(at), (1, 2))),)) for at, word in enumerate("abcde")])
        circle = Circle(STD, 4, 1, deeds, ((), ("M",), (), ("N",)))
        other = circle.renamed((("K0", "K1"), ("K1", "K0"), ("M", "N"), ("S2", "X")))
        self.assertEqual(len(worlds_of(circle)), 32)
        self.assertIs(are_alike_for(circle, other, (0, 1, 2, 3)), False)
        self.assertIs(are_alike_for(circle, other, (0, 1, 2)), True)
        paper = judge_telling(circle, other, (1, 2))
        self.assertEqual(len(paper[1]), 32)
        self.assertIs(telling_holds(circle, other, (1, 2), paper), True)
        self.assertEqual(len(mates_behind(circle, other, (1,), tuple("abcde"))), 120)
        self.assertEqual(len(mates_behind(circle, other, (1,), tuple("abcde" * 12))), 120)
        self.assertIsNone(first_telling(circle, other, (2,)))

    def test_a_run_that_is_hard_to_find(self):
        # There are very many sets of mates, and only long runs have none.
        lock, key, seal = ("lock", "s", "K4"), ("lock", "s", "K5"), ("lock", "s", "K1")
        told = (("a", (1, "K0"), (2, "K0"), (0, None)), ("b", (1, lock), (2, None), (0, lock)), ("c", (0, key), (1, key), None),
                ("d", (1, seal), (2, seal), (2, seal)), ("e", (1, "K0"), (1, "K0"), (2, "K0")))
        one = Circle(STD, 1, 3, deeds_of(*told), ((),))
        other = Circle(STD, 1, 3, deeds_of(*told[1:]), ((),))
        self.assertIs(is_covered(one, other, (0,)), False)
        self.assertIs(are_alike_for(other, one, (0,)), False)
        self.assertIs(is_covered(other, one, (0,)), True)
        self.assertIs(telling_holds(one, other, (0,), judge_telling(one, other, (0,))), True)

    def test_hard_first_runs(self):
        # There are thousands of sets of mates on the way; from both ends they are soon gone through.
        told = (("a", (0, "K6"), (1, "K0")), ("b", (0, "K7"), (0, "K7")), ("c", (1, "K6"), (0, "K3")), ("d", (0, "K6"), (1, "K1")),
                ("e", (0, "K0"), (0, "K7")), ("f", (1, "K3"), (1, None)))
        circle = Circle(STD, 1, 2, deeds_of(*told), ((),))
        self.assertEqual(first_learning(circle, (0,), (1,)), tuple("abefaabefd"))
        self.assertIs(learning_holds(circle, (0,), (1,), judge_learning(circle, (0,), (1,))), True)
        told = (("a", None, (1, "K7")), ("b", (0, "K1"), (0, "K4")), ("c", (0, "K0"), (1, "K3")), ("d", (0, "K3"), None),
                ("e", (1, None), (1, None)), ("f", None, (1, "K3")))
        circle = Circle(STD, 1, 2, deeds_of(*told), ((),))
        self.assertEqual(first_learning(circle, (0,), (1,)), tuple("bcdbebdcebea"))

    def test_a_long_first_run(self):
        told = (("a", (1, "K6"), (0, None)), ("b", (0, "K0"), (1, "K0")), ("c", (1, "K0"), (1, "K5")),
                ("d", (0, "K2"), (1, None)), ("e", (0, "K5"), (1, None)))
        one = Circle(STD, 1, 2, deeds_of(*told), ((),))
        other = Circle(STD, 1, 2, deeds_of(*told[:-1]), ((),))
        run = first_telling(one, other, (0,))
        self.assertEqual(run, tuple("aabaadbdebedac"))
        self.assertEqual(mates_behind(one, other, (0,), run), ())
        self.assertNotEqual(mates_behind(one, other, (0,), run[:-1]), ())


def great_circle(rng, pool):
    """A circle with four members, six deeds, and 50 to 60 reached worlds."""
    while True:
        circle = random_circle(rng, states=6, deeds=6, members=4, firsts=1, pool=pool)
        if circle.members == 4 and len(circle.names) > 4:
            try:
                if len(worlds_of(circle, 60)) >= 50:
                    return circle
            except TooMany:
                pass


class SixtyWorldsTest(unittest.TestCase):

    def test_all_that_is_asked_of_them(self):
        rng = same_rng(231)
        pool = tuple(grand_thing(number) for number in range(8))
        for things in (pool, (*pool[:4], "K0", "K1", "K2", "K3"), tuple(f"K{number}" for number in range(8))):
            for _ in range(3):
                circle = great_circle(rng, things)
                run = tuple(rng.choice(circle.names) for _ in range(60))
                self.check_knowing(circle, run, rng)
                for policy in ((), ((0, 1), (1, 2), (2, 3)), tuple((one, 3) for one in range(3))):
                    paper = judge_policy(circle, policy)
                    self.assertIs(respects(circle, policy), paper[0] == "respected")
                    self.assertIs(policy_holds(circle, policy, paper), True)
                few = without_shows(circle, places_of(circle)[6:])
                for group in ((0,), (1, 2, 3)):
                    for thing in things[:3]:
                        for found in (least_left_out(few, group, thing, 1000), least_needs(few, group, thing, things[3], 1000)):
                            self.assertEqual(found == ((),), keeps(few, group, thing, 1000))

    def check_knowing(self, circle, run, rng):
        for group in rng.sample(all_groups(circle), 5):
            found = possible_states(circle, group, run)
            states = tuple(sorted(rng.sample(range(6), 3)))[:circle.states]
            states = tuple(state for state in states if state < circle.states)
            self.assertIs(knows(circle, group, run, states), set(found) <= set(states))
            for further in ((0,), (1, 3), group):
                if knows_that(circle, group, further, run, states):
                    self.assertIs(knows(circle, further, run, states), True)
            paper = judge_learning(circle, group, states)
            self.assertIs(learning_holds(circle, group, states, paper), True)
            self.assertIs(first_learning(circle, group, states) is None, paper[0] == "never")

    def test_many_cells_of_a_policy(self):
        # Nobody but 0 sees anything, so two ways may go apart as far as they like.
        pool = [grand_thing(number) for number in range(3)]
        deeds = []
        for at, name in enumerate("abcdef"):
            moves = [((state * (at + 1) + 1) % 6, (pool[(at + state) % 3], (0,)) if state == at else None) for state in range(6)]
            deeds.append((name, at % 4, None, tuple(moves)))
        circle = Circle(STD, 4, 6, tuple(deeds), ((), (), (), ()))
        self.assertGreater(len(worlds_of(circle)), 40)
        policy = ((0, 1), (1, 0), (2, 0), (3, 0))
        paper = judge_policy(circle, policy)
        self.assertEqual(paper[0], "respected")
        self.assertGreater(len(paper[2]), 5000)
        self.assertIs(policy_holds(circle, policy, paper), True)
        self.assertIs(policy_holds(circle, policy, ("respected", paper[1], paper[2][:-1])), False)

    def test_names_that_all_look_alike(self):
        deeds = tuple((word, at % 4, None, ((0, (f"K{at}", ((at + 1) % 4,) if at == 4 else (0, 1, 2, 3))),)) for at, word in enumerate("abcde"))
        circle = Circle(STD, 4, 1, deeds, ((),) * 4)
        self.assertEqual(len(worlds_of(circle)), 32)
        for run in (tuple("abcde" * 12), tuple("aabbccddee" * 6)):
            for group, further in (((0,), (1,)), ((1,), (0, 1, 2, 3)), ((0, 2, 3), (1,)), ((2,), (2, 3))):
                self.assertIs(knows_that(circle, group, further, run, (0,)), True)
                self.assertIs(knows_that(circle, group, further, run, ()), False)


if __name__ == "__main__":
    unittest.main()
