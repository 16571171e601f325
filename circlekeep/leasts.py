"""Least recipes: for all that can be had of a hoard's ledger at once, the least first (D. Knuth 1977)."""

from heapq import heappop, heappush

from circlekeep.things import is_word


def rules_of(hoard):
    """All rules (number, step, premises): who has the premises has the thing with the number by the step.

    Steps lack the numbers of the steps that they name. It is enough to open pieces of what is shown: a recipe
    that opens what it made itself has a lesser one within it, which comes to the same.
    """
    ledger = hoard.ledger
    rules = [(number, ("shown", place), ()) for place, number in enumerate(hoard.shown)]
    for number, thing in enumerate(ledger.entries):
        if is_word(thing):
            rules.append((number, ("word", thing), ()))
        elif ledger.heads[number] is not None:
            rules.append((number, ("make", ledger.heads[number]), ledger.parts[number]))
    for whole, uses in enumerate(hoard.uses):
        for word, needed, given in uses:
            rules.append((given, ("open", word), (whole, *needed)))
    return rules


def followers_of(rules):
    """For each number the places of the rules that have it among their premises, as often as they have it."""
    followers = {}
    for place, rule in enumerate(rules):
        for premise in rule[2]:
            followers.setdefault(premise, []).append(place)
    return followers


def least_ways(hoard):
    """For each number that can be had (size, step, premises) of a least recipe, the premises' ones ahead of it."""
    rules = rules_of(hoard)
    followers = followers_of(rules)
    missing = [len(rule[2]) for rule in rules]
    queue = []
    for place, rule in enumerate(rules):
        if not rule[2]:
            heappush(queue, (1, place))
    ways = {}
    while queue:
        size, place = heappop(queue)
        number, step, premises = rules[place]
        if number in ways:
            continue
        ways[number] = (size, step, premises)
        for follower in followers.get(number, []):
            missing[follower] -= 1
            if missing[follower] == 0:
                parts = [ways[premise][0] for premise in rules[follower][2]]
                heappush(queue, (1 + sum(parts), follower))
    return ways


def steps_of(ways):
    """Steps for all that can be had, and a dict that has for each number the place of the step that comes to it."""
    steps = []
    places = {}
    for number, (_, step, premises) in ways.items():
        places[number] = len(steps)
        if premises:
            steps.append((*step, tuple([places[premise] for premise in premises])))
        else:
            steps.append(step)
    return steps, places
