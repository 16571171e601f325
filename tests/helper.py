"""What the tests share: awkward values, random rows, and slow functions that follow the document word by word."""

import itertools
import random

from circlekeep.books import Book, standard_book
from circlekeep.circles import Circle
from circlekeep.console import Console
from circlekeep.desk import Desk
from circlekeep.errors import BadText, NoDeed
from circlekeep.rows import Row

STD = standard_book()
ROW = Row(STD, (("lock", "s", "K"), "K"))
ROOM = Circle(STD, 2, 2, (
    ("hand", 0, None, ((1, ("K", (1,))), None)),
    ("post", 0, None, ((0, (("lock", "s", "K"), (0, 1))), (1, (("lock", "t", "K"), (0, 1))))),
), (("K",), ()))

# A book with all sorts of needs, two needs at once, a kind without openings, and openings that give words.
WIDE = Book(
    (("bag", 3), ("cap", 1), ("hat", 1), ("ink", 2), ("jar", 2), ("tin", 1), ("urn", 3), ("vat", 1)),
    (("drop", "tin", 0, ()),
     ("dump", "urn", 1, (("part", 0), ("part", 2))),
     ("fish", "bag", 2, (("around", "cap", 0), ("inside", 1, "hat"))),
     ("grab", "bag", 0, (("part", 2),)),
     ("lift", "jar", 0, (("inside", 1, "cap"),)),
     ("peel", "ink", 1, (("part", 1),)),
     ("pick", "ink", 0, (("around", "hat", 1),)),
     ("pour", "jar", 1, (("around", "cap", 0), ("around", "cap", 0))),
     ("scan", "urn", 0, ()),
     ("sift", "urn", 2, (("inside", 0, "tin"), ("part", 1))),
     ("tear", "cap", 0, (("part", 0),)),
     ("turn", "bag", 1, ())))

SMALL = Book((("box", 1), ("duo", 2)), (("left", "duo", 0, ()), ("more", "duo", 1, (("part", 0),)),
                                        ("peek", "box", 0, (("around", "box", 0),))))

BOOKS = (STD, WIDE, SMALL)


def nested(value, depth):
    """A value within as many tuples, lists and dicts."""
    for level in range(depth):
        value = ((value,), [value], {"k": value}, ("pair", value, "K"))[level % 4]
    return value


def any_values():
    """Values of all sorts that [2] names."""
    deep = "a"
    for _ in range(39):
        deep = ("half", deep)
    return [
        None, True, False, 0, 1, -1, 2, 3, 10 ** 39, -(10 ** 39), "", "a", "K", "abcdefgh", "abcdefghi", "Kabcdefg",
        "Kabcdefgh", "a\n", "K\n", "\n", " ", "a b", "aB", "KB", "K1", "1K", "a1", "K-", "~", "lock(a,K)",
        "lock(a, K)",
        "lock(a,K", "lock(a,K))", "(a)", "a,", "lock", "lock()", "half(half(a))", "half(" * 200 + "a" + ")" * 200,
        "(" * 200, "lock(" * 200 + "x" * 2800, "x" * 4000, "kind\n" * 800, "row 0", "row 1\na", (), [], {}, ("a",),
        ["a"], {"a": 1}, (None,), ((),), ("lock", "a"), ("lock", "a", "K"), ("lock", "a", "K", "b"),
        ["lock", "a", "K"],
        ("lock", ["a"], "K"), ("none", "a"), (["lock"], "a", "K"), (("lock", "a", "K"), "K"), (True, "a"),
        ({}, {}, {}),
        ("part", 0), ("shown", 0), (("shown", 0),), (("shown", True),), ("had", (("shown", 0),)), ("closed", ()),
        ("closed", ("K",)), ("alike", ()), ("comes", ()), ("same", (), ()), ("alike", (("a", "a"),)), deep,
        nested("a", 40), nested([], 40), tuple(range(2000)), ["a"] * 2000, ("a",) * 2000, (("a", "a"),) * 500,
        STD, WIDE, ROW, ROOM, BadText(3), (0, (("K",), ())), ("kept", ()), ("had", (), (("shown", 0),)), (0, ROOM),
        ("kept", (((0, (("K",), ())), ()),)), ("covered", ()), ("tells", ()), ((0, 1),), (0, 1), (STD, ROW), ("half", ROW), ("half", STD), (ROW, ROW, ROW), ((STD,), 1),
        (ROW, (("shown", 0),)), ("had", ROW), (STD, ()), ("alike", ((STD, ROW),)), ("closed", (ROW,)),
        Desk(ROOM), Console(), (Desk(ROOM), Console()), ("kept", Desk(ROOM)), ("respected", (), ()), ("shown", 0, (), (), None),
        ("never", ()), ("learns", ()), ("kept", str(ROOM), (1,), "L", ()), {"state": ROOM, 1: [Desk(ROOM)]}, (0, 1, Desk(ROOM)),
        NoDeed("post"),
    ]


def variants(value):
    """A valid value with one part replaced, left out or repeated, and with tuples turned into lists."""
    fresh = [None, True, 1, 10 ** 39, "", "a", "K", "lock", (), [], ["a"], ("lock", "a", "K"), STD]
    found = list(fresh)
    if isinstance(value, tuple):
        found.append(list(value))
        for at, part in enumerate(value):
            found.append(value[:at] + value[at + 1:])
            found.append(value[:at] + (part, part) + value[at + 1:])
            for other in variants(part):
                found.append(value[:at] + (other,) + value[at + 1:])
    return found


def random_book(rng):
    """A book with a few kinds and openings."""
    words = sorted(rng.sample(["bag", "cap", "hat", "ink", "jar", "tin", "urn", "vat"], rng.randint(1, 5)))
    kinds = tuple([(word, rng.choice((1, 1, 2, 2, 3))) for word in words])
    counts = dict(kinds)
    single = [kind for kind in words if counts[kind] == 1]
    openings = []
    for word in sorted(rng.sample(["da", "du", "fa", "fu", "ga", "gu", "ha", "hu"], rng.randint(0, 8))):
        kind = rng.choice(words)
        needs = tuple([random_need(rng, counts[kind], single) for _ in range(rng.choice((0, 0, 1, 1, 1, 2)))])
        openings.append((word, kind, rng.randrange(counts[kind]), needs))
    return Book(kinds, tuple(openings))


def random_need(rng, count, single):
    """A need of an opening of a kind with count parts."""
    sort = rng.choice(("part", "part", "around", "inside")) if single else "part"
    if sort == "part":
        return "part", rng.randrange(count)
    if sort == "around":
        return "around", rng.choice(single), rng.randrange(count)
    return "inside", rng.randrange(count), rng.choice(single)


def random_thing(rng, book, depth, leaves=("a", "b", "K", "L", "M1")):
    """A thing of a book, at most so deep."""
    if depth == 0 or rng.random() < 0.35:
        return rng.choice(leaves)
    kind, count = rng.choice(book.kinds)
    return (kind, *[random_thing(rng, book, depth - 1, leaves) for _ in range(count)])


def random_row(rng, book, most=5, depth=3):
    """A row of a few things; locks find keys now and then, as there are few names."""
    return Row(book, tuple([random_thing(rng, book, rng.randint(0, depth)) for _ in range(rng.randint(0, most))]))


def changed_row(rng, row):
    """A row with as many things, often alike: names exchanged, or one thing changed."""
    things = list(row.things)
    pick = rng.random()
    if pick < 0.35:
        order = list(row.names)
        rng.shuffle(order)
        table = dict(zip(row.names, order))
        return Row(row.book, tuple([slow_swapped(thing, table) for thing in things]))
    if things:
        at = rng.randrange(len(things))
        if pick < 0.65 and row.names:
            things[at] = slow_swapped(things[at], {rng.choice(row.names): random_thing(rng, row.book, 1)})
        else:
            things[at] = random_thing(rng, row.book, 2)
    return Row(row.book, tuple(things))


def slow_swapped(thing, table):
    """A thing with others in the place of names."""
    if isinstance(thing, str):
        return table.get(thing, thing)
    return (thing[0], *[slow_swapped(part, table) for part in thing[1:]])


def slow_text(thing):
    """The text of a thing as [4] says."""
    return thing if isinstance(thing, str) else thing[0] + "(" + ",".join(map(slow_text, thing[1:])) + ")"


def slow_pieces(thing):
    """All pieces of a thing as [4] says, each as often as it stands in it."""
    return [thing] + ([] if isinstance(thing, str) else [piece for part in thing[1:] for piece in slow_pieces(part)])


def is_small(text):
    """Whether a string is a word, a name being given."""
    return text[0].islower()


def made_of(thing, things):
    """[8]: whether a thing is made of some things."""
    if thing in things:
        return True
    if isinstance(thing, str):
        return is_small(thing)
    return all(made_of(part, things) for part in thing[1:])


def slow_needed(book, opening, thing):
    """[5]: what an opening needs at a thing of its kind."""
    found = []
    for need in [row for row in book.openings if row[0] == opening][0][3]:
        if need[0] == "part":
            found.append(thing[1:][need[1]])
        elif need[0] == "around":
            found.append((need[1], thing[1:][need[2]]))
        else:
            part = thing[1:][need[1]]
            if isinstance(part, str) or part[0] != need[2]:
                return None
            found.append(part[1])
    return tuple(found)


def slow_uses(book, thing):
    """(opening, needed, given) for all openings of a thing's kind whose needed things there are."""
    if isinstance(thing, str):
        return []
    ways = [row for row in book.openings if row[1] == thing[0]]
    uses = [(row[0], slow_needed(book, row[0], thing), thing[1:][row[2]]) for row in ways]
    return [use for use in uses if use[1] is not None]


def slow_got(row):
    """[8]: the got things, in order."""
    got = []
    for thing in row.things:
        if thing not in got:
            got.append(thing)
    while True:
        for given in [use[2] for thing in got for use in slow_uses(row.book, thing)
                      if use[2] not in got and all(made_of(needed, got) for needed in use[1])]:
            got.append(given)
            break
        else:
            return got


def slow_value(row, recipe):
    """[7]: what a recipe comes to, None if to nothing."""
    values = []
    for step in recipe:
        named = [values[k] for k in step[2]] if len(step) == 3 else []
        if step[0] == "shown":
            values.append(row.things[step[1]])
        elif step[0] == "word":
            values.append(step[1])
        elif None in named:
            values.append(None)
        elif step[0] == "make":
            values.append((step[1], *named))
        else:
            uses = {use[0]: use for use in slow_uses(row.book, named[0])}
            use = uses.get(step[1])
            values.append(use[2] if use and use[1] == tuple(named[1:]) else None)
    return values[-1]


def slow_picture(row):
    """[12]: the picture of a row."""
    got = slow_got(row)
    boxes = slow_boxes(row)

    def shapes(things):
        return tuple(slow_shape(boxes, thing) for thing in things)

    opened = []
    for box in boxes:
        uses = [use for use in slow_uses(row.book, box) if all(made_of(needed, got) for needed in use[1])]
        opened.append(tuple((word, shapes(needed), slow_shape(boxes, given)) for word, needed, given in uses))
    return shapes(row.things), tuple(opened)


def slow_shape(boxes, thing):
    """[12]: the shape of a thing that can be had."""
    if thing in boxes:
        return boxes.index(thing)
    return thing if isinstance(thing, str) else (thing[0], *[slow_shape(boxes, part) for part in thing[1:]])


def slow_boxes(row):
    """[12]: the basic things in the order in which they are got."""
    got = slow_got(row)
    found = []
    for thing in got:
        if isinstance(thing, str):
            basic = not is_small(thing)
        else:
            basic = not all(made_of(part, got) for part in thing[1:])
        if basic:
            found.append(thing)
    return found


def slow_closed(row, about, things):
    """[9]: whether an ascending tuple of things shows that a thing cannot be had."""
    if not all(made_of(thing, things) for thing in row.things) or made_of(about, things):
        return False
    for thing in things:
        for _, needed, given in slow_uses(row.book, thing):
            if all(made_of(part, things) for part in needed) and not made_of(given, things):
                return False
    return True


def slow_partner(thing, table):
    """[13]: the partner of a thing, None if there is none; table is a list of pairs."""
    for ahead, behind in table:
        if ahead == thing:
            return behind
    if isinstance(thing, str):
        return thing if is_small(thing) else None
    parts = [slow_partner(part, table) for part in thing[1:]]
    return None if None in parts else (thing[0], *parts)


def slow_alike(one, other, pairs):
    """[13]: whether an ascending tuple of pairs of things shows that two rows are alike."""
    turned = [(right, left) for left, right in pairs]
    for at, (left, right) in enumerate(pairs):
        if left in [pair[0] for pair in pairs[:at]] or right in [pair[1] for pair in pairs[:at]]:
            return False
    if [slow_partner(thing, pairs) for thing in one.things] != list(other.things):
        return False
    return slow_mirrored(one.book, pairs) and slow_mirrored(one.book, turned)


def slow_mirrored(book, pairs):
    """[13]: the second and the third rule from one side."""
    for left, right in pairs:
        if isinstance(left, str):
            if is_small(left) and left != right:
                return False
            continue
        parts = [slow_partner(part, pairs) for part in left[1:]]
        if None not in parts and right != (left[0], *parts):
            return False
        for word, needed, given in slow_uses(book, left):
            wanted = [slow_partner(part, pairs) for part in needed]
            if None in wanted:
                continue
            if isinstance(right, str) or right[0] != left[0]:
                return False
            uses = {use[0]: use for use in slow_uses(book, right)}
            if word not in uses or list(uses[word][1]) != wanted or slow_partner(given, pairs) != uses[word][2]:
                return False
    return True


def values_by_size(rows, words, most):
    """What recipes come to at some rows, by their written-out sizes up to most; only those that come at all."""
    book = rows[0].book
    by_size = {1: {tuple(row.things[at] for row in rows) for at in range(len(rows[0]))}}
    by_size[1] |= {(word,) * len(rows) for word in words}
    failed = False
    for size in range(2, most + 1):
        by_size[size] = set()
        for kind, count in book.kinds:
            for parts in chosen(by_size, size - 1, count):
                by_size[size].add(tuple((kind, *[part[at] for part in parts]) for at in range(len(rows))))
        for word, kind, _, needs in book.openings:
            for parts in chosen(by_size, size - 1, 1 + len(needs)):
                ends = []
                for at, row in enumerate(rows):
                    uses = {use[0]: use for use in slow_uses(book, parts[0][at])}
                    use = uses.get(word)
                    comes = use is not None and list(use[1]) == [part[at] for part in parts[1:]]
                    ends.append(use[2] if comes else None)
                if None not in ends:
                    by_size[size].add(tuple(ends))
                elif any(end is not None for end in ends):
                    failed = True
    return by_size, failed


def chosen(by_size, total, count):
    """All ways to choose count values whose sizes are so many together."""
    if count == 0:
        return [()] if total == 0 else []
    found = []
    for size in range(1, total - count + 2):
        for rest in chosen(by_size, total - size, count - 1):
            found.extend([(value, *rest) for value in by_size.get(size, ())])
    return found


def same_rng(number):
    """A random source that tells the same each time."""
    return random.Random(number)


TWO = Circle(STD, 2, 2, (
    ("hand", 0, None, ((1, ("K", (1,))), None)),
    ("post", 0, None, ((0, (("lock", "u", "K"), (0, 1))), (1, (("lock", "t", "K"), (0, 1))))),
), (("K",), ()))

POOL = ("K", "L", "M", "s", ("lock", "s", "K"), ("lock", "t", "K"), ("lock", "K", "L"), ("lock", ("pair", "L", "a"), "M"),
        ("pair", "K", "L"), ("half", "K"), ("seal", "M", ("half", "K")), ("sign", "s", "K"), ("lock", "M", ("pair", "K", "s")),
        ("mark", "K"), ("pair", "s", "M"), ("lock", "t", "t"))


def random_circle(rng, states=3, deeds=3, members=3, firsts=2, pool=POOL, book=STD):
    """A circle that has at most so many of all, over some things of a pool."""
    many = rng.randint(1, members)
    things = rng.sample(pool, min(rng.randint(1, 8), len(pool)))
    groups = [group for size in range(1, many + 1) for group in itertools.combinations(range(many), size)]
    size = rng.randint(1, states)

    def move():
        if rng.random() < 0.2:
            return None
        show = (rng.choice(things), rng.choice(groups)) if rng.random() < 0.75 else None
        return rng.randrange(size), show

    words = sorted(rng.sample(["ask", "bid", "cut", "dig", "eat", "fly"], rng.randint(0, deeds)))
    done = [(word, rng.randrange(many), rng.choice(things) if rng.random() < 0.3 else None,
             tuple([move() for _ in range(size)])) for word in words]
    held = [tuple([rng.choice(things) for _ in range(rng.randint(0, firsts))]) for _ in range(many)]
    return Circle(book, many, size, tuple(done), tuple(held))


def all_groups(circle):
    """All groups of a circle."""
    members = range(circle.members)
    return [group for size in range(1, circle.members + 1) for group in itertools.combinations(members, size)]


def all_runs(circle, most):
    """All runs of at most so many deeds, in the order of [20]."""
    return [run for size in range(most + 1) for run in itertools.product(circle.names, repeat=size)]


def slow_had(book, things, thing):
    """[8]: whether a thing can be had of some things."""
    return made_of(thing, slow_got(Row(book, tuple(things))))


def slow_lot(things):
    """[2]: things ascending, each once."""
    return tuple(sorted([thing for at, thing in enumerate(things) if thing not in things[:at]], key=slow_text))


def slow_start(circle):
    """[16]: the world behind the empty run."""
    return 0, tuple(slow_lot(things) for things in circle.firsts)


def slow_step(circle, world, name):
    """[16]: (world, show, whether it was open) of a deed that is done or tried in a world."""
    state, lots = world
    _, owner, need, moves = [deed for deed in circle.deeds if deed[0] == name][0]
    if moves[state] is None or (need is not None and not slow_had(circle.book, lots[owner], need)):
        return world, None, False
    follow, show = moves[state]
    if show is not None:
        lots = tuple(slow_lot((*lot, show[0])) if at in show[1] else lot for at, lot in enumerate(lots))
    return (follow, lots), show, True


def slow_run(circle, run, group):
    """[16]: the world behind a run, the things of the group's row, its seers."""
    world = slow_start(circle)
    things = [thing for member in group for thing in circle.firsts[member]]
    told = [(member,) for member in group for _ in circle.firsts[member]]
    for name in run:
        world, show, _ = slow_step(circle, world, name)
        if show is not None and set(show[1]) & set(group):
            things.append(show[0])
            told.append(tuple(member for member in group if member in show[1]))
    return world, tuple(things), tuple(told)


def slow_reached(circle):
    """[16] [20]: the reached worlds, each with its first run, in the order of these."""
    found = {slow_start(circle): ()}
    waiting = list(found)
    while waiting:
        world = waiting.pop(0)
        for name in circle.names:
            follow = slow_step(circle, world, name)[0]
            if follow not in found:
                found[follow] = (*found[world], name)
                waiting.append(follow)
    return found


def world_key(world):
    """[16]: what worlds are ordered by."""
    return world[0], tuple(tuple(slow_text(thing) for thing in lot) for lot in world[1])


def pooled_things(world, group):
    """What the members of a group have in a world."""
    return slow_lot([thing for member in group for thing in world[1][member]])


def slow_first(circle, group, thing):
    """[19] [20]: the first run behind which a group can have a thing, None if there is none."""
    for world, run in slow_reached(circle).items():
        if slow_had(circle.book, pooled_things(world, group), thing):
            return run
    return None


def slow_core(book, left, right):
    """[14]: the core of the pairs of things at the same places of two rows, None if they are not even."""
    lot = sorted(set(zip(left, right)), key=lambda pair: (slow_text(pair[0]), slow_text(pair[1])))
    one = Row(book, tuple(pair[0] for pair in lot))
    other = Row(book, tuple(pair[1] for pair in lot))
    if slow_picture(one) != slow_picture(other):
        return None
    pairs = zip(slow_boxes(one), slow_boxes(other))
    return tuple(sorted(pairs, key=lambda pair: (slow_text(pair[0]), slow_text(pair[1]))))


def mate_key(mate):
    """[21]: what mates are ordered by."""
    return world_key(mate[0]), tuple((slow_text(left), slow_text(right)) for left, right in mate[1])


def slow_sights(circle, run, group):
    """What a group sees behind a run: the things of its row, its seers, and how many of them are firsts."""
    _, things, told = slow_run(circle, run, group)
    return things, told, sum(len(circle.firsts[member]) for member in group)


def slow_mates(one, other, group, run):
    """[21]: the mates of a run, found by following all runs of the second circle that show no more."""
    things, told, _ = slow_sights(one, run, group)
    begun = slow_sights(other, (), group)
    if [len(one.firsts[member]) for member in group] != [len(other.firsts[member]) for member in group]:
        return []
    waiting = [(slow_start(other), begun[0])]
    found = set(waiting)
    while waiting:
        world, row = waiting.pop()
        for name in other.names:
            follow, show, _ = slow_step(other, world, name)
            further = row
            if show is not None and set(show[1]) & set(group):
                if len(row) == len(told) or told[len(row)] != tuple(at for at in group if at in show[1]):
                    continue
                further = (*row, show[0])
            if (follow, further) not in found:
                found.add((follow, further))
                waiting.append((follow, further))
    ends = {(world, row) for world, row in found if len(row) == len(things)
            and slow_picture(Row(one.book, things)) == slow_picture(Row(one.book, row))}
    return sorted({(world, slow_core(one.book, things, row)) for world, row in ends}, key=mate_key)


def like_circle(rng, circle):
    """A circle that is like another one, perhaps alike for some group: changed in one way or another."""
    pick = rng.randrange(6)
    if pick == 0:
        return circle
    if pick == 1:
        names = list("KLM")
        rng.shuffle(names)
        return circle.renamed(tuple(zip("KLM", names)))
    deeds = list(circle.deeds)
    if pick == 2 and deeds:
        del deeds[rng.randrange(len(deeds))]
    elif pick == 3:
        moves = tuple((rng.randrange(circle.states), None) for _ in range(circle.states))
        deeds.append(("go", rng.randrange(circle.members), None, moves))
    elif deeds:
        at = rng.randrange(len(deeds))
        name, owner, need, moves = deeds[at]
        moves = [changed_move(rng, circle, move) for move in moves]
        deeds[at] = (name, owner, need, tuple(moves))
    return Circle(circle.book, circle.members, circle.states, tuple(sorted(deeds)), circle.firsts)


def changed_move(rng, circle, move):
    """A move with another show, or with none, or as it is."""
    if move is None or rng.random() < 0.4:
        return move
    if rng.random() < 0.3:
        return move[0], None
    group = tuple(sorted(rng.sample(range(circle.members), rng.randint(1, circle.members))))
    return move[0], (rng.choice(POOL), move[1][1] if move[1] else group)


def is_valid_world(circle, value):
    """[16]: whether any value is a pair of a state and an ascending tuple of things for each member."""
    if not isinstance(value, tuple) or len(value) != 2 or type(value[0]) is not int or not 0 <= value[0] < circle.states:
        return False
    if not isinstance(value[1], tuple) or len(value[1]) != circle.members:
        return False
    return all(isinstance(lot, tuple) and all(circle.book.is_thing(thing) for thing in lot) and lot == slow_lot(lot)
               for lot in value[1])


def is_valid_core(book, value):
    """[14]: whether any value is an even pair lot that is its own core."""
    if not isinstance(value, tuple) or not all(isinstance(pair, tuple) and len(pair) == 2 for pair in value):
        return False
    if not all(book.is_thing(thing) for pair in value for thing in pair):
        return False
    texts = [(slow_text(left), slow_text(right)) for left, right in value]
    return texts == sorted(set(texts)) and slow_core(book, [p[0] for p in value], [p[1] for p in value]) == value


def slow_kept(circle, group, about, cells):
    """[19]: whether any value has the cells of a paper that a thing is kept."""
    if not isinstance(cells, tuple) or not all(isinstance(cell, tuple) and len(cell) == 2 for cell in cells):
        return False
    if not all(is_valid_world(circle, world) for world, _ in cells):
        return False
    keys = [world_key(world) for world, _ in cells]
    if keys != sorted(set(keys)) or world_key(slow_start(circle)) not in keys:
        return False
    for world, closed in cells:
        if not isinstance(closed, tuple) or not all(circle.book.is_thing(thing) for thing in closed):
            return False
        if closed != slow_lot(closed) or not slow_closed(Row(circle.book, pooled_things(world, group)), about, closed):
            return False
        if not all(world_key(slow_step(circle, world, name)[0]) in keys for name in circle.names):
            return False
    return True


def slow_follows(other, group, sight, mate, further):
    """[22]: whether a mate follows another one for what a group sees in the first circle, None if it is nothing."""
    waiting = [(mate[0], None)]
    found = set(waiting)
    while waiting:
        world, shown = waiting.pop()
        for name in other.names:
            follow, show, done = slow_step(other, world, name)
            members = () if show is None else tuple(at for at in group if at in show[1])
            if members and (sight is None or shown is not None or members != sight[1]):
                continue
            state = (follow, show[0] if members else shown)
            if done and state not in found:
                found.add(state)
                waiting.append(state)
    if sight is None:
        return (further[0], None) in found and further[1] == mate[1]
    left = [pair[0] for pair in mate[1]]
    right = [pair[1] for pair in mate[1]]
    return any(world == further[0] and shown is not None
               and slow_core(other.book, [*left, sight[0]], [*right, shown]) == further[1] for world, shown in found)


def slow_covered(one, other, group, cells):
    """[22]: whether any value has the cells of a paper that a circle is covered by another one."""
    if not isinstance(cells, tuple) or not all(isinstance(cell, tuple) and len(cell) == 2 for cell in cells):
        return False
    for world, mates in cells:
        if not is_valid_world(one, world) or not isinstance(mates, tuple) or not mates:
            return False
        if not all(isinstance(mate, tuple) and len(mate) == 2 and is_valid_world(other, mate[0])
                   and is_valid_core(one.book, mate[1]) for mate in mates):
            return False
    keys = [(world_key(world), [mate_key(mate) for mate in mates]) for world, mates in cells]
    if keys != sorted(keys) or any(keys[at] == keys[at + 1] for at in range(len(keys) - 1)):
        return False
    if any(mates != sorted(mates) or len(set(mates)) < len(mates) for _, mates in keys):
        return False
    begun = slow_mates(one, other, group, ())
    if not any(world == slow_start(one) and all(mate in begun for mate in mates) for world, mates in cells):
        return False
    for world, mates in cells:
        for name in one.names:
            follow, show, done = slow_step(one, world, name)
            members = () if show is None else tuple(at for at in group if at in show[1])
            sight = (show[0], members) if members else None
            if done and not any(behind == follow and all(any(slow_follows(other, group, sight, mate, further)
                                                             for mate in mates) for further in ends)
                                for behind, ends in cells):
                return False
    return True


def slow_told(circle, policy, run):
    """[23]: what a run tells each member, as triples within triples."""
    if not run:
        return [()] * circle.members
    before = slow_told(circle, policy, run[:-1])
    owner = [deed[1] for deed in circle.deeds if deed[0] == run[-1]][0]
    return [(before[member], before[owner], run[-1]) if member == owner or (owner, member) in policy else before[member]
            for member in range(circle.members)]


def random_policy(rng, circle, share=0.35):
    """A policy that has about such a share of all pairs."""
    members = range(circle.members)
    return tuple((one, other) for one in members for other in members if one != other and rng.random() < share)


def policy_circle(rng, states=3, deeds=4, members=4):
    """A circle in which policies may well be respected: a deed shows its things to the same members in each state."""
    many = rng.randint(2, members)
    size = rng.randint(1, states)
    pool = rng.sample(rng.choice((POOL, ("K", "L", "M", ("lock", "s", "K"), ("lock", "t", "L")), ("s", "K"))), 2)
    done = []
    for word in sorted(rng.sample(["ask", "bid", "cut", "dig", "eat"], rng.randint(1, deeds))):
        owner = rng.randrange(many)
        group = rng.choice([(owner,), (owner,), tuple(sorted(rng.sample(range(many), rng.randint(1, many)))), None])
        moves = [(rng.randrange(size), group and (rng.choice(pool), group)) for _ in range(size)]
        if rng.random() < 0.2:
            moves[rng.randrange(size)] = None
        done.append((word, owner, "K" if rng.random() < 0.15 else None, tuple(moves)))
    firsts = tuple(rng.choice([(), (), ("K",), (("lock", "s", "K"),)]) for _ in range(many))
    return Circle(STD, many, size, tuple(done), firsts)


def way_key(cell):
    """[25]: what cells of a policy's paper are ordered by."""
    member, one, other, core, heard = cell
    return member, world_key(one), world_key(other), [(slow_text(left), slow_text(right)) for left, right in core], heard


def is_valid_way(circle, value):
    """[25]: whether any value is a member, two worlds, a core, and an ascending tuple of members without this one."""
    if not isinstance(value, tuple) or len(value) != 5:
        return False
    member, one, other, core, heard = value
    if type(member) is not int or not 0 <= member < circle.members or not isinstance(heard, tuple):
        return False
    if not is_valid_world(circle, one) or not is_valid_world(circle, other) or not is_valid_core(circle.book, core):
        return False
    if not all(type(other) is int and 0 <= other < circle.members for other in heard):
        return False
    return list(heard) == sorted(set(heard) - {member})


def slow_sees(circle, world, names, member):
    """The world behind some deeds from a world on, and the things that a member sees."""
    things = []
    for name in names:
        world, show, _ = slow_step(circle, world, name)
        if show is not None and member in show[1]:
            things.append(show[0])
    return world, things


def slow_beginnings(circle, policy, world, member):
    """[25]: the beginnings for a world and a member: cells, None in the place of those that are not fine."""
    owners = {deed[0]: deed[1] for deed in circle.deeds}
    ears = {name: [at for at in range(circle.members) if at == owner or (owner, at) in policy]
            for name, owner in owners.items()}
    splits = [((name,), (), ears[name]) for name in circle.names]
    for one, other in itertools.combinations(circle.names, 2):
        if owners[one] not in ears[other] and owners[other] not in ears[one]:
            splits.append(((one, other), (other, one), [at for at in ears[one] if at in ears[other]]))
    for names, others, heard in splits:
        if member not in heard:
            ahead, left = slow_sees(circle, world, names, member)
            behind, right = slow_sees(circle, world, others, member)
            lot = list(world[1][member])
            core = slow_core(circle.book, lot + left, lot + right) if len(left) == len(right) else None
            yield None if core is None else (member, ahead, behind, core, tuple(heard))


def slow_ways(circle, policy, cell):
    """[25]: what is asked for behind a cell: cells, None in the place of those that are not fine."""
    member, one, other, core, heard = cell
    for name, owner, _, _ in circle.deeds:
        grown = set(heard)
        if owner in heard:
            grown |= {at for at in range(circle.members) if at == owner or (owner, at) in policy}
        if member not in grown:
            ahead, left = slow_sees(circle, one, (name,), member)
            behind, right = slow_sees(circle, other, (name,), member)
            pairs = [[pair[0] for pair in core] + left, [pair[1] for pair in core] + right]
            further = slow_core(circle.book, *pairs) if len(left) == len(right) else None
            yield None if further is None else (member, ahead, behind, further, tuple(sorted(grown)))


def slow_respected(circle, policy, worlds, cells):
    """[25]: whether two values are the worlds and the cells of a paper that a policy is respected."""
    if not isinstance(worlds, tuple) or not all(is_valid_world(circle, world) for world in worlds):
        return False
    if not isinstance(cells, tuple) or not all(is_valid_way(circle, cell) for cell in cells):
        return False
    keys = [world_key(world) for world in worlds]
    order = [way_key(cell) for cell in cells]
    if keys != sorted(set(keys)) or order != sorted(order) or any(order[at] == order[at + 1] for at in range(len(order) - 1)):
        return False
    if world_key(slow_start(circle)) not in keys:
        return False
    asked = []
    for world in worlds:
        if not all(world_key(slow_step(circle, world, name)[0]) in keys for name in circle.names):
            return False
        for member in range(circle.members):
            asked.extend(slow_beginnings(circle, policy, world, member))
    for cell in cells:
        asked.extend(slow_ways(circle, policy, cell))
    return all(is_given(cell, order) for cell in asked)


def is_given(cell, order):
    """[25]: whether what is asked for is fine, and a cell, told by its key, if it is needed."""
    if cell is None:
        return False
    _, one, other, core, _ = cell
    return (one == other and all(left == right for left, right in core)) or way_key(cell) in order


def slow_look(circle, group, run):
    """[16]: what tells whether a group sees alike behind two runs of one circle: equal if it does."""
    _, things, told = slow_run(circle, run, group)
    return told, slow_picture(Row(circle.book, things))
