"""Works, things and small helpers that the tests share."""

import copy
import random

# Two boxes, two parts, pipes between boxes, from without and to without.
MILL = (
    "mill",
    (("pond", 5, 3, 4), ("race", 3, 0, 0)),
    (("gate", ("shut", "ajar", "wide"), ("ajar",)), ("weir", ("up", "down"), ())),
    (
        ("pond", "race", "gate", "ajar", 1, 1),
        ("pond", "race", "gate", "wide", 1, 3),
        ("race", "", "weir", "down", 0, 2),
        ("", "pond", "weir", "up", 0, 1),
    ),
    (
        ("close", (("gate", "shut"), ("weir", "up"))),
        ("draw", (("gate", "wide"), ("weir", "down"))),
        ("ease", (("gate", "ajar"),)),
    ),
    (
        ("eye", "sum", ("pond", "race"), 1),
        ("hand", "part", "gate"),
        ("rod", "sum", ("pond",), 0),
    ),
)

MILL_TEXT = """works mill
box pond 5 3 4
box race 3 0 0
part gate shut,ajar,wide ajar
part weir up,down -
pipe pond race gate ajar 1 1
pipe pond race gate wide 1 3
pipe race - weir down 0 2
pipe - pond weir up 0 1
deed close gate:shut weir:up
deed draw gate:wide weir:down
deed ease gate:ajar
sensor eye sum pond,race 1
sensor hand part gate
sensor rod sum pond 0"""

# The least there may be of everything.
LEAST = ("a", (("b", 1, 0, 0),), (("p", ("m", "n"), ()),), (), (), ())

LEAST_TEXT = "works a\nbox b 1 0 0\npart p m,n -"

# As many as there may be of everything, each number as great as it may be.
GREAT = (
    "greatest",
    (("boxaaaaa", 9, 9, 9), ("boxb", 9, 0, 9), ("boxc", 9, 0, 0)),
    (
        ("pa", ("c", "b", "a"), ("a", "b", "c")),
        ("pb", ("c", "a"), ("a",)),
        ("pc", ("x", "y", "z"), ("x", "z")),
        ("pd", ("longmode", "m"), ()),
    ),
    (
        ("boxaaaaa", "boxb", "pa", "a", 7, 9),
        ("boxb", "boxc", "pb", "c", 9, 9),
        ("", "boxc", "pc", "y", 0, 2),
        ("boxc", "", "pd", "longmode", 0, 0),
        ("boxc", "", "pd", "longmode", 0, 0),
    ),
    (
        ("da", (("pa", "a"), ("pb", "a"), ("pc", "x"), ("pd", "m"))),
        ("db", (("pa", "b"),)),
        ("dc", (("pa", "c"),)),
        ("dd", (("pd", "m"),)),
    ),
    (
        ("sa", "sum", ("boxaaaaa", "boxb", "boxc"), 3),
        ("sb", "sum", ("boxb",), 0),
        ("sc", "part", "pa"),
        ("sd", "part", "pd"),
        ("se", "part", "pd"),
    ),
)

# NAMEs shared between kinds, and NAMEs that are words of rows.
SHARED = (
    "works",
    (("box", 3, 0, 3), ("part", 2, 1, 1), ("sum", 1, 0, 1)),
    (("box", ("box", "part"), ("box",)), ("part", ("part", "sum", "box"), ("box", "part", "sum"))),
    (("box", "part", "part", "sum", 0, 1), ("", "box", "box", "box", 1, 1)),
    (("box", (("box", "part"), ("part", "box"))), ("deed", (("part", "sum"),))),
    (("box", "part", "box"), ("part", "sum", ("box", "sum"), 2), ("sum", "sum", ("part",), 3)),
)

# One box, whose level is told closely, and a part that may come to stand in an odd mode.
TUB = (
    "tub",
    (("tub", 6, 1, 3),),
    (("plug", ("in", "out"), ("out",)), ("tap", ("shut", "run"), ())),
    (("", "tub", "tap", "run", 1, 2), ("tub", "", "plug", "out", 0, 1)),
    (("fill", (("tap", "run"),)), ("stop", (("tap", "shut"),))),
    (("knob", "part", "tap"), ("rod", "sum", ("tub",), 0), ("view", "sum", ("tub",), 1)),
)
FILL = ["fill", "stop"]

# Four taps, all opened by one deed: two that give 1, one that gives 2, one that gives nothing.
TAPS = (
    "taps",
    (("tub", 9, 0, 0),),
    tuple([(name, ("off", "on"), ()) for name in ("a", "b", "c", "d")]),
    (("", "tub", "a", "on", 1, 1), ("", "tub", "b", "on", 1, 1), ("", "tub", "c", "on", 2, 2)),
    (("go", (("a", "on"), ("b", "on"), ("c", "on"), ("d", "on"))),),
    (("eyea", "part", "a"), ("eyeb", "part", "b"), ("eyec", "part", "c"), ("eyed", "part", "d"), ("rod", "sum", ("tub",), 0)),
)

# Signs behind the deed, what lots they leave, which cores, and who is blamed.
TAPS_KNOWN = (
    # Nothing need act otherwise.
    ([], [()], [], ((), ())),
    ([(1, "rod", 4)], [()], [], ((), ())),
    ([(1, "rod", 4), (1, "eyea", "on")], [()], [], ((), ())),
    # One part.
    ([(1, "eyed", "off")], [("d",)], [("d",)], (("d",), ("d",))),
    ([(1, "eyea", "off"), (1, "rod", 3)], [("a",)], [("a",)], (("a",), ("a",))),
    # Either of two.
    ([(1, "rod", 3)], [("a",), ("b",)], [("a", "b")], ((), ("a", "b"))),
    # Two parts.
    ([(1, "eyea", "off"), (1, "eyed", "off")], [("a", "d")], [("a",), ("d",)], (("a", "d"), ("a", "d"))),
    ([(1, "rod", 2), (1, "eyec", "on")], [("a", "b")], [("a",), ("b",)], (("a", "b"), ("a", "b"))),
    # One, or two others: fewer parts first.
    ([(1, "rod", 2)], [("c",), ("a", "b")], [("a", "c"), ("b", "c")], ((), ("a", "b", "c"))),
    # One, and either of two.
    ([(1, "rod", 1)], [("a", "c"), ("b", "c")], [("c",), ("a", "b")], (("c",), ("a", "b", "c"))),
    (
        [(1, "rod", 2), (1, "eyed", "off")],
        [("c", "d"), ("a", "b", "d")],
        [("d",), ("a", "c"), ("b", "c")],
        (("d",), ("a", "b", "c", "d")),
    ),
    # Three, and all.
    ([(1, "rod", 0)], [("a", "b", "c")], [("a",), ("b",), ("c",)], (("a", "b", "c"), ("a", "b", "c"))),
    (
        [(1, "rod", 0), (1, "eyed", "off")],
        [("a", "b", "c", "d")],
        [("a",), ("b",), ("c",), ("d",)],
        (("a", "b", "c", "d"), ("a", "b", "c", "d")),
    ),
    # Not even all.
    ([(1, "rod", 5)], [], [()], ((), ())),
    ([(0, "eyea", "on")], [], [()], ((), ())),
    ([(1, "rod", 4), (1, "eyea", "off")], [], [()], ((), ())),
)

# NAMEs that are words of claims.
WORDY = (
    "all",
    (("all", 9, 0, 9), ("not", 9, 0, 9), ("sum", 9, 0, 9)),
    (("any", ("sum", "mode", "not"), ()), ("mode", ("all", "any", "mode"), ())),
    (),
    (),
    (),
)

ALL_WORKS = (MILL, LEAST, GREAT, SHARED)

# What can't be a thing of any works, or hardly.
ODDMENTS = (
    None, True, False, 0, 1, -1, 7, 10 ** 30, -(10 ** 30), "", "a", "wait", "sum", "part", "-", " ", "Ab", "a1",
    [], (), [[]], ((),), [None], (None,), ("a",), ["a"], ("a", "b"), ((), ()), [(), ()], ([], []), ([], ()),
    ("a", 1), (1, "a"), (0, "rod", 4), [0, "rod", 4], (("a",), (1,)),
)


def replaced(thing, path, worth):
    """The same thing, with another one at the end of that path of places."""
    if not path:
        return worth
    rows = list(thing)
    rows[path[0]] = replaced(rows[path[0]], path[1:], worth)
    return tuple(rows) if isinstance(thing, tuple) else rows


def dropped(thing, path):
    """The same thing without what stands at the end of that path."""
    rows = list(thing)
    if len(path) == 1:
        del rows[path[0]]
    else:
        rows[path[0]] = dropped(rows[path[0]], path[1:])
    return tuple(rows) if isinstance(thing, tuple) else rows


def paths(thing, ahead=()):
    """The paths to all that is within a thing, itself too."""
    yield ahead
    if isinstance(thing, (tuple, list)):
        for at, one in enumerate(thing):
            yield from paths(one, ahead + (at,))


def at_path(thing, path):
    """What stands at the end of that path."""
    for at in path:
        thing = thing[at]
    return thing


def swapped(thing):
    """The same with a list for each tuple and a tuple for each list."""
    if isinstance(thing, tuple):
        return [swapped(one) for one in thing]
    if isinstance(thing, list):
        return tuple([swapped(one) for one in thing])
    return thing


def retold(thing):
    """The same thing, with one list for a tuple or a tuple for a list, or a truth for a number, each in its turn."""
    for path in paths(thing):
        found = at_path(thing, path)
        if isinstance(found, (tuple, list)):
            yield replaced(thing, path, list(found) if isinstance(found, tuple) else tuple(found))
        elif found in (0, 1):
            yield replaced(thing, path, bool(found))


def altered(thing, seed, many=5):
    """The same thing with anything else at one place, or without what stands there."""
    for path in paths(thing):
        if path:
            yield dropped(thing, path)
        for other in any_things(seed, many):
            yield replaced(thing, path, other)


def nested(deep, within=None):
    """A thing that is so deep."""
    for at in range(deep):
        within = (within,) if at % 2 else [within]
    return within


def any_thing(rng, deep=4):
    """A thing of any kind."""
    if deep == 0 or rng.random() < 0.3:
        return copy.deepcopy(rng.choice(ODDMENTS))
    rows = [any_thing(rng, deep - 1) for _ in range(rng.randint(0, 4))]
    return rows if rng.random() < 0.5 else tuple(rows)


def any_things(seed, many=300):
    """Things of any kind, the same for the same seed."""
    rng = random.Random(seed)
    found = [copy.deepcopy(one) for one in ODDMENTS]
    found.extend([nested(12), nested(11, "a"), nested(12, 5), tuple(range(400)), list(range(400))])
    found.extend([any_thing(rng) for _ in range(many)])
    return found


def names(rng, many):
    """So many unlike NAMEs, rising."""
    found = set()
    while len(found) < many:
        found.add("".join(rng.choice("abc") for _ in range(rng.randint(1, 3))))
    return sorted(found)


def some_of(rng, things, least=0):
    """Some of these things, in their order."""
    many = rng.randint(least, len(things))
    kept = sorted(rng.sample(range(len(things)), many))
    return tuple([things[at] for at in kept])


def any_works(rng, boxes=3, parts=3, cap=4):
    """A works of at most so many boxes and parts, of such caps."""
    found_boxes = []
    for name in names(rng, rng.randint(1, boxes)):
        top = rng.randint(1, cap)
        low = rng.randint(0, max(0, top - 1))
        found_boxes.append((name, top, low, rng.randint(low, min(top, low + 2))))
    found_parts = []
    for name in names(rng, rng.randint(1, parts)):
        modes = names(rng, rng.randint(2, 3))
        odd = some_of(rng, modes)
        rng.shuffle(modes)
        found_parts.append((name, tuple(modes), odd))
    ends = ["", *[box[0] for box in found_boxes]]
    pipes = []
    for _ in range(rng.choice((0, 2, 3, 4, 5))):
        source, goal = rng.sample(ends, 2)
        part = rng.choice(found_parts)
        least = rng.choice((0, 0, 1, 2, 3))
        pipes.append((source, goal, part[0], rng.choice(part[1][:2]), least, least + rng.choice((0, 1, 2, 2))))
    deeds = []
    for name in names(rng, rng.choice((0, 2, 3, 4))):
        sets = [(part[0], rng.choice(part[1])) for part in some_of(rng, found_parts, 1)]
        deeds.append((name, tuple(sets)))
    sensors = []
    for name in names(rng, rng.choice((0, 3, 4, 5))):
        if rng.random() < 0.5:
            sensors.append((name, "sum", some_of(rng, ends[1:], 1), rng.randint(0, 3)))
        else:
            sensors.append((name, "part", rng.choice(found_parts)[0]))
    return ("any", tuple(found_boxes), tuple(found_parts), tuple(pipes), tuple(deeds), tuple(sensors))


def any_taps(rng):
    """A works of a tub, taps and drains, that deeds open and close, some of whose sensors are wanting."""
    names = "abcd"[:rng.randint(2, 4)]
    parts = tuple([(name, ("off", "on"), rng.choice(((), (), ("off",), ("on",)))) for name in names])
    pipes = []
    for name in names:
        least = rng.randint(1, 2)
        ends = rng.choice((("", "tub"), ("", "tub"), ("tub", "")))
        pipes.append((*ends, name, "on", least, least))
    go = tuple([(name, "on") for name in names if rng.random() < 0.8]) or ((names[0], "on"),)
    stop = tuple([(name, "off") for name in names if rng.random() < 0.5]) or ((names[-1], "off"),)
    eyes = [(f"eye{name}", "part", name) for name in names if rng.random() < 0.3]
    sensors = (*eyes, ("rod", "sum", ("tub",), 0))
    return ("taps", (("tub", 9, 2, 2),), parts, tuple(pipes), (("go", go), ("stop", stop)), sensors)


def any_stand(rng, works):
    """A stand of that works."""
    modes = tuple([rng.choice(part[1]) for part in works[2]])
    return (modes, tuple([rng.randint(0, box[1]) for box in works[1]]))


def boxes_of(*highs):
    """The least works, with so many boxes, that begin from 0 to these."""
    return replaced(LEAST, (1,), tuple([(name, 9, 0, high) for name, high in zip("abc", highs)]))


def stuck_of(*highs):
    """The same boxes, beside a part that a deed turns and a sensor tells of, and the story of one that stuck."""
    works = replaced(boxes_of(*highs), (4,), (("go", (("p", "n"),)),))
    return replaced(works, (5,), (("eye", "part", "p"),)), (["go"], [(1, "eye", "m")])


def any_claim(rng, works, deep=3):
    """A claim of that works, at most so deep."""
    sort = rng.choice(("sum", "sum", "mode", "not", "all", "any") if deep > 1 else ("sum", "mode"))
    if sort == "sum":
        return ("sum", some_of(rng, [box[0] for box in works[1]], 1), rng.randint(0, 6), rng.randint(0, 12))
    if sort == "mode":
        part = rng.choice(works[2])
        return ("mode", part[0], some_of(rng, sorted(part[1]), 1))
    if sort == "not":
        return ("not", any_claim(rng, works, deep - 1))
    return (sort, tuple([any_claim(rng, works, deep - 1) for _ in range(rng.randint(0, 3))]))


def any_lot(rng, works):
    """A lot of that works."""
    return some_of(rng, [part[0] for part in works[2]])


def any_deed(rng, works):
    """A deed's NAME, or wait."""
    return rng.choice(["wait", *[deed[0] for deed in works[4]]])


def any_story(rng, works, deeds=3, signs=4):
    """A story of at most so many deeds and signs, its signs such as stands might give."""
    done = [any_deed(rng, works) for _ in range(rng.randint(0, deeds))]
    came = []
    for _ in range(rng.randint(0, signs) if works[5] else 0):
        sensor = rng.choice(works[5])
        modes, levels = any_stand(rng, works)
        if sensor[1] == "sum":
            held = [level for box, level in zip(works[1], levels) if box[0] in sensor[2]]
            reading = sum(held)
        else:
            reading = [mode for part, mode in zip(works[2], modes) if part[0] == sensor[2]][0]
        came.append((rng.randint(0, len(done)), sensor[0], reading))
    return (done, came)
