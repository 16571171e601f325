"""[32]: findings hold exactly if their parts are valid and what they say is so."""

import unittest

from circlekeep.books import Book
from circlekeep.circles import Circle
from circlekeep.findings import finding_holds
from circlekeep.keepchecks import keeping_holds
from circlekeep.keeping import judge_keeping
from circlekeep.learning import judge_learning
from circlekeep.respecting import judge_policy
from circlekeep.runs import run_text
from circlekeep.telling import judge_telling
from helper import (POOL, ROOM, STD, TWO, all_groups, any_values, like_circle, policy_circle, random_circle, random_policy, same_rng,
                    slow_reached, variants)

TEXT = str(ROOM)
OTHER = str(TWO)
SHOWN = (("shown", 0),)
KEPT = judge_keeping(ROOM, (1,), "L")[1]
COVERED = judge_telling(ROOM, ROOM, (1,))[1]
RESPECTED = judge_policy(ROOM, ((0, 1),))[1:]
NEVER = judge_learning(ROOM, (1,), ())[1]

FINDINGS = (
    ("kept", TEXT, (1,), "L", KEPT),
    ("had", TEXT, (1,), "K", "hand", SHOWN),
    ("covered", TEXT, TEXT, (1,), COVERED),
    ("tells", TEXT, OTHER, (1,), "post hand"),
    ("respected", TEXT, ((0, 1),), *RESPECTED),
    ("shown", TEXT, (), 1, "-", "post", None),
    ("never", TEXT, (1,), (), NEVER),
    ("learns", TEXT, (1,), (1,), "hand post"),
)


class FindingsTest(unittest.TestCase):

    def holds(self, thing, wanted):
        self.assertIs(finding_holds(thing), wanted, thing)

    def test_each_form(self):
        for thing in FINDINGS:
            self.holds(thing, True)
            self.assertIs(finding_holds(thing=thing), True)
            for wrong in (list(thing), thing[:-1], (*thing, thing[-1]), (*thing, None), thing[1:], (thing,), (thing[0].upper(), *thing[1:]),
                          (*thing[:1], list(thing[1]), *thing[2:])):
                self.holds(wrong, False)
            for other in FINDINGS:
                if other[0] != thing[0]:
                    self.holds((other[0], *thing[1:]), False)

    def test_any_value(self):
        for value in any_values():
            self.holds(value, False)
            for thing in FINDINGS:
                self.holds((*thing, value), False)
                for at in range(len(thing)):
                    changed = (*thing[:at], value, *thing[at + 1:])
                    if isinstance(value, tuple) and value == (0, 1):
                        # This one is a group, and a tuple of states.
                        self.holds(changed, (thing[0], at) in (("had", 2), ("tells", 3), ("learns", 2), ("learns", 3)))
                    else:
                        self.holds(changed, self.still_holds(thing, at, value))

    def still_holds(self, thing, at, value):
        """Whether a finding holds with a value in the place of a part: the same one, or one that happens to be right."""
        if type(value) is type(thing[at]) and (isinstance(value, (str, tuple, type(None))) or type(value) is int) and value == thing[at]:
            return True
        if thing[0] == "kept" and at == 3:
            # Some things are kept beside L, by the same cells.
            return STD.is_thing(value) and keeping_holds(ROOM, (1,), value, ("kept", KEPT))
        if thing[0] == "had" and at == 5:
            return isinstance(value, tuple) and value == SHOWN
        if thing[0] == "never" and at == 3:
            return value == (0, 1)[:0]
        return False

    def test_texts_of_circles(self):
        lines = TEXT.split("\n")
        for thing in FINDINGS:
            for text in (ROOM, TEXT + "\n", "\n" + TEXT, TEXT.replace("\n", ";"), TEXT.replace("members 2", "members 5"), "", "ROOM", str(STD),
                         "\n".join(lines[1:]), "\n".join(lines[:-1] + [lines[-2]]), TEXT.encode(), [TEXT], (TEXT,), None,
                         TEXT.replace("states 2", "states 02"), TEXT.replace(" 0,1", " 1,0"), TEXT.replace("lock(s,K)", "lock(s, K)")):
                self.holds((thing[0], text, *thing[2:]), False)
            if thing[0] in ("covered", "tells"):
                for text in (ROOM, TEXT + "\n", "", None, str(STD)):
                    self.holds((*thing[:2], text, *thing[3:]), False)

    def test_of_another_circle(self):
        other = str(Circle(STD, 2, 2, (*ROOM.deeds, ("say", 0, None, ((0, ("L", (1,))), None))), ROOM.firsts))
        self.holds(("kept", other, (1,), "L", KEPT), False)
        self.holds(("kept", OTHER, (1,), "L", KEPT), False)
        self.holds(("had", other, (1,), "K", "hand", SHOWN), True)
        self.holds(("had", OTHER, (1,), "K", "hand", SHOWN), True)
        self.holds(("had", str(Circle(STD, 2, 2, (), ROOM.firsts)), (1,), "K", "hand", SHOWN), False)
        self.holds(("covered", TEXT, OTHER, (1,), COVERED), False)
        self.holds(("covered", OTHER, TEXT, (1,), COVERED), False)
        self.holds(("tells", TEXT, TEXT, (1,), "post hand"), False)
        self.holds(("tells", OTHER, TEXT, (1,), "post hand"), True)
        self.holds(("respected", OTHER, ((0, 1),), *RESPECTED), False)
        self.holds(("shown", OTHER, (), 1, "-", "post", None), True)
        self.holds(("never", OTHER, (1,), (), NEVER), False)
        self.holds(("learns", OTHER, (1,), (1,), "hand post"), True)

    def test_groups_policies_states_things(self):
        for group in ((), (0, 0), (1, 0), (2,), (True,), (-1,), [1], 1, "1", None, ((1,),), (0, 1, 2), ("1",), {1: 1}):
            for thing in FINDINGS:
                at = {"kept": 2, "had": 2, "covered": 3, "tells": 3, "never": 2, "learns": 2}.get(thing[0])
                if at is not None:
                    self.holds((*thing[:at], group, *thing[at + 1:]), False)
        for policy in (((0, 0),), ((1, 0), (0, 1)), ((0, 2),), [(0, 1)], ((0, 1), (0, 1)), (0, 1), None, ([0, 1],), ((False, True),)):
            self.holds(("respected", TEXT, policy, *RESPECTED), False)
            self.holds(("shown", TEXT, policy, 1, "-", "post", None), False)
        for states in ((1, 0), (0, 0), (2,), (-1,), (True,), [1], 1, "1", None, (0, 1, 2), (0, True), ((1,),), (0, 10 ** 30)):
            self.holds(("never", TEXT, (1,), states, NEVER), False)
            self.holds(("learns", TEXT, (1,), states, "hand post"), False)
        self.holds(("learns", TEXT, (1,), (0, 1), "-"), True)
        self.holds(("learns", TEXT, (1,), (0,), "-"), True)
        self.holds(("never", TEXT, (1,), (0,), NEVER), False)
        for about in ("", "lock(s,K)", ("tin", "a"), ("lock", "a"), None, 1, ["L"], ("lock", "s", ["K"]), "abcdefghi"):
            self.holds(("kept", TEXT, (1,), about, KEPT), False)
            self.holds(("had", TEXT, (1,), about, "hand", SHOWN), False)
        self.holds(("had", TEXT, (1,), ("lock", "s", "K"), "post", SHOWN), True)

    def test_texts_of_runs(self):
        for run in (("hand",), (), ["hand"], "hand ", " hand", "hands", "", None, "hand  post", "hand\n", "hand,post", b"hand", "- hand", "HAND"):
            self.holds(("had", TEXT, (1,), "K", run, SHOWN), False)
            self.holds(("tells", TEXT, OTHER, (1,), run), False)
            self.holds(("learns", TEXT, (1,), (0, 1), run), False)
            self.holds(("shown", TEXT, (), 1, run, "post", None), False)
            self.holds(("shown", TEXT, (), 1, "-", run, None), False)
        self.holds(("had", TEXT, (1,), "K", "hand hand", SHOWN), True)
        self.holds(("had", TEXT, (1,), "K", "-", SHOWN), False)
        self.holds(("had", TEXT, (0,), "K", "-", SHOWN), True)
        self.holds(("tells", TEXT, OTHER, (1,), "post"), False)
        self.holds(("tells", TEXT, OTHER, (1,), "-"), False)
        self.holds(("shown", TEXT, (), 1, "post", "-", None), True)
        self.holds(("shown", TEXT, (), 1, "-", "-", None), False)
        self.holds(("shown", TEXT, (), 1, ("post",), (), None), False)
        self.holds(("learns", TEXT, (1,), (1,), "hand"), False)

    def test_circles_that_do_not_match(self):
        three = str(Circle(STD, 3, 2, (), ((), (), ())))
        empty = str(Circle(Book(STD.kinds, ()), 2, 2, ROOM.deeds, ROOM.firsts))
        for other in (three, empty):
            for first, second in ((TEXT, other), (other, TEXT)):
                self.holds(("covered", first, second, (1,), COVERED), False)
                self.holds(("covered", first, second, (1,), ()), False)
                for run in ("-", "post", "hand", "post hand"):
                    self.holds(("tells", first, second, (1,), run), False)

    def test_what_the_package_tells(self):
        rng = same_rng(271)
        told = {}
        for _ in range(150):
            circle = random_circle(rng, states=2, members=3, firsts=1) if rng.random() < 0.6 else policy_circle(rng, members=3)
            other = like_circle(rng, circle)
            if max(len(slow_reached(circle)), len(slow_reached(other))) > 20:
                continue
            for thing in self.findings(rng, circle, other):
                self.holds(thing, True)
                told[thing[0]] = told.get(thing[0], 0) + 1
                for changed in rng.sample(variants(thing[1:]), 4):
                    if isinstance(changed, tuple):
                        self.assertIn(finding_holds((thing[0], *changed)), (True, False))
                for changed in rng.sample(variants(thing), 4):
                    self.assertIn(finding_holds(changed), (True, False))
        self.assertEqual(set(told), {thing[0] for thing in FINDINGS})
        self.assertGreater(min(told.values()), 15, told)

    def findings(self, rng, circle, other):
        """What the package tells of two circles that match."""
        text = str(circle)
        group = rng.choice(all_groups(circle))
        about = rng.choice(POOL)
        word, *rest = judge_keeping(circle, group, about)
        yield (word, text, group, about, *rest) if word == "kept" else (word, text, group, about, run_text(rest[0]), rest[1])
        word, rest = judge_telling(circle, other, group)
        yield word, text, str(other), group, rest if word == "covered" else run_text(rest)
        policy = random_policy(rng, circle)
        word, *rest = judge_policy(circle, policy)
        if word == "shown":
            rest[1:3] = [run_text(run) for run in rest[1:3]]
        yield (word, text, policy, *rest)
        states = tuple(sorted(rng.sample(range(circle.states), rng.randint(0, circle.states))))
        word, rest = judge_learning(circle, group, states)
        yield word, text, group, states, rest if word == "never" else run_text(rest)

    def test_papers_as_they_are(self):
        # Runs in papers are texts, and nothing else is: papers with runs as tuples do not hold.
        for word, *rest in (judge_keeping(ROOM, (1,), "K"),):
            self.holds((word, TEXT, (1,), "K", *rest), False)
        self.holds(("tells", TEXT, OTHER, (1,), ("post", "hand")), False)
        self.holds(("shown", TEXT, (), *judge_policy(ROOM, ())[1:]), False)
        self.holds(("learns", TEXT, (1,), (1,), ("hand", "post")), False)
        self.holds(("kept", TEXT, (1,), "L", ("kept", KEPT)), False)
        self.holds(("never", TEXT, (1,), (), ("never", NEVER)), False)
        self.holds(("covered", TEXT, TEXT, (1,), NEVER), True)
        self.holds(("never", TEXT, (1,), (), COVERED), True)


class ManyWorldsTest(unittest.TestCase):

    def test_never_too_many(self):
        moves = tuple([(min(at + 1, 98), ("K", (0,))) for at in range(99)])
        deeds = tuple((word, 0, None, moves) for word in ("ga", "go"))
        line = Circle(STD, 1, 99, (*deeds, ("show", 0, None, tuple([(at, (f"L{at % 8}", (0,))) for at in range(99)]))), ((),))
        text = str(line)
        self.assertIs(finding_holds(("had", text, (0,), "L7", " ".join(["go"] * 7 + ["show"]), (("shown", 7),))), True)
        self.assertIs(finding_holds(("learns", text, (0,), (8,), " ".join(["go", "show"] * 8))), True)
        self.assertIs(finding_holds(("learns", text, (0,), (7,), " ".join(["go", "show"] * 8))), False)
        self.assertIs(finding_holds(("kept", text, (0,), "M", ())), False)
        self.assertIs(finding_holds(("respected", text, (), (), ())), False)


if __name__ == "__main__":
    unittest.main()
