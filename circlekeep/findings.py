"""Findings: what papers show of circles, with texts of circles and runs in the place of these."""

from circlekeep.circles import Circle
from circlekeep.errors import BadText
from circlekeep.forms import ascends, is_whole
from circlekeep.keepchecks import keeping_holds
from circlekeep.learning import learning_holds
from circlekeep.policies import is_policy
from circlekeep.respectchecks import policy_holds
from circlekeep.runs import is_group, read_run
from circlekeep.tellchecks import telling_holds

# How many parts the findings of each sort have.
COUNTS = {"kept": 5, "had": 6, "covered": 5, "tells": 5, "respected": 5, "shown": 7, "never": 5, "learns": 5}


def circle_in(value):
    """The circle whose text any value is, None for any other value."""
    try:
        return Circle.read(value)
    except BadText:
        return None


def run_in(circle, value):
    """The run of a circle whose text any value is, None for any other value."""
    try:
        return read_run(circle, value)
    except BadText:
        return None


def are_states(circle, value):
    """Whether any value is an ascending tuple, perhaps empty, of states of a circle."""
    return isinstance(value, tuple) and all([is_whole(state, 0, circle.states) for state in value]) and ascends(value)


def keeping_found(circle, word, parts):
    """Whether it holds that a circle keeps a thing from a group, or that it does not."""
    group, about = parts[:2]
    if not is_group(circle, group) or not circle.book.is_thing(about):
        return False
    if word == "kept":
        return keeping_holds(circle, group, about, ("kept", parts[2]))
    return keeping_holds(circle, group, about, ("had", run_in(circle, parts[2]), parts[3]))


def telling_found(circle, word, parts):
    """Whether it holds that a circle is covered by another one for a group, or that it is not."""
    other, group, told = circle_in(parts[0]), parts[1], parts[2]
    if other is None or not is_group(circle, group):
        return False
    return telling_holds(circle, other, group, (word, told if word == "covered" else run_in(circle, told)))


def policy_found(circle, word, parts):
    """Whether it holds that a policy is respected, or that it is not."""
    if not is_policy(circle, parts[0]):
        return False
    if word == "respected":
        return policy_holds(circle, parts[0], ("respected", *parts[1:]))
    member, run, other, paper = parts[1:]
    return policy_holds(circle, parts[0], ("shown", member, run_in(circle, run), run_in(circle, other), paper))


def learning_found(circle, word, parts):
    """Whether it holds that a group never learns that the state is among some states, or that it does."""
    group, states, told = parts
    if not is_group(circle, group) or not are_states(circle, states):
        return False
    return learning_holds(circle, group, states, (word, told if word == "never" else run_in(circle, told)))


def finding_holds(thing):
    """Whether any value is a finding that holds."""
    if not isinstance(thing, tuple) or not thing or not isinstance(thing[0], str):
        return False
    word = thing[0]
    if COUNTS.get(word) != len(thing):
        return False
    circle = circle_in(thing[1])
    if circle is None:
        return False
    if word in ("kept", "had"):
        return keeping_found(circle, word, thing[2:])
    if word in ("covered", "tells"):
        return telling_found(circle, word, thing[2:])
    if word in ("respected", "shown"):
        return policy_found(circle, word, thing[2:])
    return learning_found(circle, word, thing[2:])
