"""[34]: names and parameters of the interface; answers that stay; arguments that are not changed."""

import copy
import importlib
import inspect
import pathlib
import re
import unittest

from circlekeep import (books, circles, console, desk, findings, having, keepchecks, keeping, knowing, learning, likeness, logs,
                        mates, mends, pairlots, pictures, policies, recipes, renewing, respectchecks, respecting, rows, runs, shares,
                        tellchecks, telling, things, worlds)
from helper import ROOM, ROW, STD, TWO, any_values

DOCUMENT = pathlib.Path(__file__).resolve().parent.parent.parent / "shared" / "DOC.md"
LOCK = ("lock", "s", "K")
OTHER = rows.Row(STD, (("lock", "s", "L"), "L"))
LOT = (("K", "L"), (LOCK, ("lock", "s", "L")))
RECIPE = (("shown", 0), ("shown", 1), ("open", "open", (0, 1)))
START = (0, (("K",), ()))
RUN = ("post", "hand")

# For each function its module, its parameters in order, and valid arguments.
FUNCTIONS = (
    (things.is_word, "thing", ("a",)), (things.is_name, "thing", ("K",)), (things.text_of, "thing", (LOCK,)),
    (things.pieces_of, "thing", (LOCK,)), (things.size_of, "thing", (LOCK,)), (things.names_in, "thing", (LOCK,)),
    (things.replaced, "thing name other", (LOCK, "K", LOCK)),
    (books.standard_book, "", ()), (books.Book, "kinds openings", (STD.kinds, STD.openings)),
    (rows.Row, "book things", (STD, (LOCK, "K"))),
    (recipes.is_recipe, "row thing", (ROW, RECIPE)), (recipes.value_of, "row recipe", (ROW, RECIPE)),
    (recipes.written_size, "recipe", (RECIPE,)), (recipes.recipe_text, "recipe", (RECIPE,)),
    (having.got_things, "row", (ROW,)), (having.basis, "row", (ROW,)), (having.is_had, "row thing", (ROW, "s")),
    (having.judge, "row thing", (ROW, "S")), (having.recipe_for, "row thing", (ROW, "s")),
    (having.least_size, "row thing", (ROW, "s")),
    (having.judge_holds, "row about thing", (ROW, "s", ("had", RECIPE))), (having.has_all, "row other", (ROW, OTHER)),
    (pictures.picture, "row", (ROW,)), (pictures.boxes_of, "row", (ROW,)),
    (pictures.shape_of, "row thing", (ROW, LOCK)),
    (likeness.is_alike, "one other", (ROW, OTHER)), (likeness.compare, "one other", (ROW, OTHER)),
    (likeness.compare_holds, "one other thing", (ROW, OTHER, ("alike", (("K", "L"),)))),
    (pairlots.is_pair_lot, "book thing", (STD, LOT)), (pairlots.pair_lot, "one other", (ROW, OTHER)),
    (pairlots.is_even, "book pairs", (STD, LOT)), (pairlots.core_of, "book pairs", (STD, LOT)),
    (pairlots.joined, "book core thing other", (STD, (("K", "L"),), LOCK, ("lock", "s", "L"))),
    (circles.Circle, "book members states deeds firsts", (STD, 2, 2, ROOM.deeds, ROOM.firsts)),
    (worlds.is_world, "circle thing", (ROOM, START)), (worlds.start_of, "circle", (ROOM,)),
    (worlds.is_open, "circle world name", (ROOM, START, "hand")),
    (worlds.shown_by, "circle world name", (ROOM, START, "hand")),
    (worlds.behind, "circle world name", (ROOM, START, "hand")),
    (worlds.lot_row, "circle world group", (ROOM, START, (0, 1))), (worlds.worlds_of, "circle most", (ROOM, 6)),
    (worlds.first_run_to, "circle world most", (ROOM, (1, (("K",), ("K",))), 6)),
    (runs.is_run, "circle thing", (ROOM, RUN)), (runs.is_group, "circle thing", (ROOM, (0, 1))),
    (runs.after, "circle run", (ROOM, RUN)), (runs.seen, "circle run group", (ROOM, RUN, (1,))),
    (runs.seers, "circle run group", (ROOM, RUN, (0, 1))), (runs.run_text, "run", (RUN,)),
    (runs.read_run, "circle text", (ROOM, "post hand")),
    (shares.shares_of, "name groups keys", ("S", ((0, 1), (1,)), ("A", "B"))),
    (shares.dealt, "name groups keys", ("S", ((0, 1), (1,)), ("A", "B"))),
    (keeping.keeps, "circle group thing most", (ROOM, (1,), "K", 6)),
    (keeping.judge_keeping, "circle group thing most", (ROOM, (1,), "L", 6)),
    (keeping.first_run, "circle group thing most", (ROOM, (1,), "K", 6)),
    (keeping.first_opening, "circle name most", (ROOM, "post", 6)),
    (keeping.holders, "circle thing most", (ROOM, "K", 6)),
    (keepchecks.keeping_holds, "circle group about thing", (ROOM, (1,), "L", keeping.judge_keeping(ROOM, (1,), "L"))),
    (mates.mates_behind, "one other group run most", (ROOM, TWO, (1,), ("post",), 6)),
    (telling.is_covered, "one other group most", (ROOM, TWO, (1,), 6)),
    (telling.judge_telling, "one other group most", (ROOM, ROOM, (1,), 6)),
    (telling.are_alike_for, "one other group most", (ROOM, TWO, (1,), 6)),
    (telling.first_telling, "one other group most", (ROOM, TWO, (1,), 6)),
    (tellchecks.telling_holds, "one other group thing", (ROOM, ROOM, (1,), telling.judge_telling(ROOM, ROOM, (1,)))),
    (policies.is_policy, "circle thing", (ROOM, ((0, 1),))),
    (policies.ears_of, "circle policy member", (ROOM, ((0, 1),), 0)),
    (policies.tell_alike, "circle policy run other member", (ROOM, ((0, 1),), RUN, RUN[::-1], 1)),
    (respecting.respects, "circle policy most", (ROOM, ((0, 1),), 6)),
    (respecting.judge_policy, "circle policy most", (ROOM, (), 6)),
    (respectchecks.policy_holds, "circle policy thing", (ROOM, ((0, 1),), respecting.judge_policy(ROOM, ((0, 1),)))),
    (knowing.possible_states, "circle group run most", (ROOM, (1,), ("post",), 6)),
    (knowing.knows, "circle group run states most", (ROOM, (1,), RUN, (1,), 6)),
    (knowing.knows_that, "circle group further run states most", (ROOM, (0,), (1,), RUN, (1,), 6)),
    (learning.judge_learning, "circle group states most", (ROOM, (1,), (), 6)),
    (learning.first_learning, "circle group states most", (ROOM, (1,), (1,), 6)),
    (learning.learning_holds, "circle group states thing", (ROOM, (1,), (), learning.judge_learning(ROOM, (1,), ()))),
    (mends.places_of, "circle", (ROOM,)), (mends.without_shows, "circle places", (ROOM, (("post", 1),))),
    (mends.with_needs, "circle names thing", (ROOM, ("hand",), "L")),
    (mends.least_left_out, "circle group thing most", (ROOM, (1,), "K", 6)),
    (mends.least_needs, "circle group thing need most", (ROOM, (1,), "K", "M", 6)),
    (renewing.renewed, "circle name deed others", (ROOM, "K", "hand", ("L", "M"))),
    (logs.first_fitting, "circle group row seers most", (ROOM, (1,), rows.Row(STD, ("L",)), ((1,),), 6)),
    (logs.ends_fitting, "circle group row seers most", (ROOM, (1,), rows.Row(STD, ("L",)), ((1,),), 6)),
    (findings.finding_holds, "thing", (("had", str(ROOM), (1,), "K", "hand", (("shown", 0),)),)),
)

# For each method an object, its name, its parameters in order, and valid arguments.
METHODS = (
    (STD, "is_thing", "thing", (LOCK,)), (STD, "read_thing", "text", ("lock(s,K)",)),
    (STD, "needed", "opening thing", ("open", LOCK)), (books.Book, "read", "text", (str(STD),)),
    (ROW, "with_thing", "thing", (LOCK,)), (ROW, "only", "places", ((1,),)),
    (ROW, "replaced", "name thing", ("K", LOCK)), (rows.Row, "read", "book text", (STD, str(ROW))),
    (ROOM, "deed", "name", ("post",)), (ROOM, "renamed", "pairs", ((("K", "L"),),)), (ROOM, "turned", "order", ((1, 0),)),
    (circles.Circle, "read", "text", (str(ROOM),)),
)
SPECIAL = ((books.Book, ("__eq__", "__str__", "is_thing", "read_thing", "needed", "read", "__init__")),
           (rows.Row, ("__eq__", "__str__", "__len__", "__iter__", "__add__", "with_thing", "only", "replaced", "read",
                       "__init__")),
           (circles.Circle, ("__eq__", "__str__", "deed", "renamed", "turned", "read", "__init__")),
           (desk.Desk, ("__len__", "do", "undo", "redo", "row", "has", "knows", "__init__")), (console.Console, ("say", "__init__")))
MODULES = (things, books, rows, recipes, having, pictures, likeness, pairlots, circles, worlds, runs, shares, keeping,
           keepchecks, mates, telling, tellchecks, policies, respecting, respectchecks, knowing, learning, mends, renewing, desk, logs,
           findings, console)
CLASSES = (books.Book, rows.Row, circles.Circle)

# Methods that change their objects: the parameters in order, arguments of calls that are done one behind the other on
# new objects, and what they answer.
CHANGING = ((lambda: desk.Desk(ROOM), "do", "name", ("post",), True), (lambda: desk.Desk(ROOM), "row", "group", ((0, 1),), ROW.only((1,))),
            (lambda: desk.Desk(ROOM), "has", "group thing", ((1,), "K"), False),
            (lambda: desk.Desk(ROOM), "knows", "group states most", ((1,), (0,), 6), True),
            (console.Console, "say", "command", ("circle " + str(ROOM).replace("\n", ";"),), "ok"))


def plain(value):
    """A value with what objects are made of in the place of these, as some of them are equal to themselves alone."""
    if isinstance(value, (tuple, list)):
        return [type(value), [plain(part) for part in value]]
    if isinstance(value, dict):
        return [[key, plain(part)] for key, part in value.items()]
    if hasattr(value, "__dict__"):
        return [type(value), plain(vars(value))]
    return value


class InterfaceTest(unittest.TestCase):

    def test_each_is_defined_where_it_is_listed(self):
        for module in MODULES:
            for function, _, _ in FUNCTIONS:
                if function.__module__ == module.__name__:
                    self.assertIs(getattr(module, function.__name__), function)
        for function, _, _ in FUNCTIONS:
            self.assertTrue(function.__module__.startswith("circlekeep."))
        for made, names in SPECIAL:
            for name in names:
                self.assertIn(name, vars(made))

    def check_call(self, function, words, arguments):
        words = words.split()
        parameters = inspect.signature(function).parameters
        self.assertEqual(list(parameters), words)
        for word, parameter in parameters.items():
            self.assertEqual(parameter.default, 200 if word == "most" else inspect.Parameter.empty)
        kept = copy.deepcopy(arguments)
        by_position = function(*arguments)
        self.assertEqual(function(**dict(zip(words, arguments))), by_position)
        self.assertEqual(function(*copy.deepcopy(arguments)), by_position)
        self.assertEqual(function(*arguments), by_position)
        self.assertEqual(arguments, kept)
        for argument, before in zip(arguments, kept):
            if isinstance(argument, CLASSES):
                self.assertEqual(vars(argument), vars(before))

    def test_functions_by_position_and_by_name(self):
        for function, words, arguments in FUNCTIONS:
            self.check_call(function, words, arguments)

    def test_methods_by_position_and_by_name(self):
        for owner, name, words, arguments in METHODS:
            before = vars(copy.deepcopy(owner)) if not isinstance(owner, type) else None
            self.check_call(getattr(owner, name), words, arguments)
            if before is not None:
                self.assertEqual(vars(owner), before)

    def test_methods_that_change_their_objects(self):
        for make, name, words, arguments, answer in CHANGING:
            words = words.split()
            parameters = inspect.signature(getattr(make(), name)).parameters
            self.assertEqual(list(parameters), words)
            for word, parameter in parameters.items():
                self.assertEqual(parameter.default, 200 if word == "most" else inspect.Parameter.empty)
            kept = copy.deepcopy(arguments)
            self.assertEqual(getattr(make(), name)(*arguments), answer)
            self.assertEqual(getattr(make(), name)(**dict(zip(words, arguments))), answer)
            self.assertEqual(arguments, kept)
        for name in ("undo", "redo"):
            self.assertEqual(list(inspect.signature(getattr(desk.Desk(ROOM), name)).parameters), [])
        self.assertEqual(list(inspect.signature(desk.Desk).parameters), ["circle"])
        self.assertEqual(list(inspect.signature(console.Console).parameters), [])

    @unittest.skipUnless(DOCUMENT.exists(), "the document is not here")
    def test_all_that_the_document_lists(self):
        text = DOCUMENT.read_text(encoding="utf-8")
        found = 0
        for part in text[text.index("# The interface"):].split("## circlekeep/")[1:]:
            module = importlib.import_module("circlekeep." + part[:part.index(".py")])
            lines = [line for line in part.split("# Examples")[0].split("\n") if line.startswith("- ")]
            for name, arguments in re.findall(r"`([a-z_]+)\(([a-z_=0-9, ]*)\)`", "\n".join(lines)):
                if hasattr(module, name):
                    signature = str(inspect.signature(getattr(module, name)))
                    self.assertEqual(signature.replace(" ", ""), f"({arguments})".replace(" ", ""), name)
                    self.assertEqual(getattr(module, name).__module__, module.__name__)
                    found += 1
            for name in re.findall(r"class `([A-Za-z]+)\(", part):
                self.assertEqual(getattr(module, name).__module__, module.__name__)
                found += 1
        self.assertGreater(found, 75)

    def test_any_value_stays_as_it_is(self):
        for value in any_values():
            kept = copy.deepcopy(value)
            for ask in (STD.is_thing, things.is_word, things.is_name, findings.finding_holds):
                ask(value)
            for ask, arguments in ((recipes.is_recipe, (ROW,)), (having.is_had, (ROW,)),
                                   (having.judge_holds, (ROW, "s")),
                                   (likeness.compare_holds, (ROW, OTHER)), (pairlots.is_pair_lot, (STD,)),
                                   (worlds.is_world, (ROOM,)), (runs.is_run, (ROOM,)), (runs.is_group, (ROOM,)),
                                   (keepchecks.keeping_holds, (ROOM, (1,), "K")), (policies.is_policy, (ROOM,)),
                                   (tellchecks.telling_holds, (ROOM, TWO, (1,))), (respectchecks.policy_holds, (ROOM, ())),
                                   (learning.learning_holds, (ROOM, (1,), (0,)))):
                self.assertIn(ask(*arguments, value), (True, False))
            self.assertEqual(plain(value), plain(kept))

    def test_answers_are_tuples(self):
        self.assertIsInstance(things.pieces_of(LOCK), tuple)
        for answer in (having.got_things(ROW), having.basis(ROW), pictures.picture(ROW), pictures.boxes_of(ROW),
                       having.judge(ROW, "s"), having.judge(ROW, "S"), having.recipe_for(ROW, "s"), ROW.names,
                       ROW.pieces,
                       likeness.compare(ROW, OTHER), pairlots.core_of(STD, LOT), pairlots.pair_lot(ROW, OTHER),
                       ROOM.names, worlds.start_of(ROOM), worlds.worlds_of(ROOM), worlds.behind(ROOM, START, "hand"),
                       worlds.shown_by(ROOM, START, "hand"), worlds.first_run_to(ROOM, START), runs.after(ROOM, RUN),
                       runs.seers(ROOM, RUN, (0, 1)), runs.read_run(ROOM, "post"), shares.shares_of("S", ((0,),), ("A",)),
                       keeping.judge_keeping(ROOM, (1,), "K"), keeping.judge_keeping(ROOM, (1,), "L"),
                       keeping.first_run(ROOM, (1,), "K"), keeping.first_opening(ROOM, "hand"),
                       keeping.holders(ROOM, "K"), mates.mates_behind(ROOM, TWO, (1,), ("post",)),
                       telling.judge_telling(ROOM, ROOM, (1,)), telling.judge_telling(ROOM, TWO, (1,)),
                       telling.first_telling(ROOM, TWO, (1,)), policies.ears_of(ROOM, ((0, 1),), 0),
                       respecting.judge_policy(ROOM, ((0, 1),)), knowing.possible_states(ROOM, (1,), RUN),
                       learning.judge_learning(ROOM, (1,), ()), learning.first_learning(ROOM, (1,), (1,)), mends.places_of(ROOM),
                       mends.least_left_out(ROOM, (1,), "K"), mends.least_needs(ROOM, (1,), "K", "M"),
                       logs.first_fitting(ROOM, (1,), rows.Row(STD, ("L",)), ((1,),)),
                       logs.ends_fitting(ROOM, (1,), rows.Row(STD, ("L",)), ((1,),))):
            self.check_tuples(answer)

    def check_tuples(self, answer):
        self.assertIsInstance(answer, (tuple, str, int))
        self.assertNotIsInstance(answer, bool)
        if isinstance(answer, tuple):
            for part in answer:
                self.check_tuples(part)


if __name__ == "__main__":
    unittest.main()
