"""A works as text, and back."""

from worktwin.errors import BadRow
from worktwin.words import is_name, number_in
from worktwin.works import MOST_OF, is_box, is_deed, is_part, is_pipe, is_sensor

KINDS = ("works", "box", "part", "pipe", "deed", "sensor")
# Of these kinds each works has one row at least.
WANTED = 3
NONE = "-"
MOST_FIGURE = 9


def box_text(box):
    """The row of a box."""
    name, cap, low, high = box
    return f"box {name} {cap} {low} {high}"


def part_text(part):
    """The row of a part."""
    name, modes, odd = part
    return " ".join(["part", name, ",".join(modes), ",".join(odd) or NONE])


def pipe_text(pipe):
    """The row of a pipe."""
    source, goal, part, mode, least, most = pipe
    return f"pipe {source or NONE} {goal or NONE} {part} {mode} {least} {most}"


def deed_text(deed):
    """The row of a deed."""
    name, sets = deed
    settings = [f"{part}:{mode}" for part, mode in sets]
    return " ".join(["deed", name, *settings])


def sensor_text(sensor):
    """The row of a sensor."""
    if sensor[1] == "sum":
        name, sort, some, slip = sensor
        return " ".join(["sensor", name, sort, ",".join(some), str(slip)])
    return " ".join(["sensor", *sensor])


def works_text(works):
    """The text of a works."""
    name, boxes, parts, pipes, deeds, sensors = works
    rows = [f"works {name}"]
    rows.extend([box_text(box) for box in boxes])
    rows.extend([part_text(part) for part in parts])
    rows.extend([pipe_text(pipe) for pipe in pipes])
    rows.extend([deed_text(deed) for deed in deeds])
    rows.extend([sensor_text(sensor) for sensor in sensors])
    return "\n".join(rows)


def numbers_in(words):
    """The numbers that these words write, None for each that writes none."""
    return [number_in(word, MOST_FIGURE) for word in words]


def name_in(words):
    """What a row of a works' NAME says."""
    return words[1] if len(words) == 2 else None


def box_in(words):
    """What a row of a box says."""
    if len(words) != 5:
        return None
    numbers = numbers_in(words[2:])
    return (words[1], *numbers)


def part_in(words):
    """What a row of a part says."""
    if len(words) != 4:
        return None
    odd = () if words[3] == NONE else tuple(words[3].split(","))
    return (words[1], tuple(words[2].split(",")), odd)


def pipe_in(words):
    """What a row of a pipe says."""
    if len(words) != 7:
        return None
    ends = ["" if word == NONE else word for word in words[1:3]]
    numbers = numbers_in(words[5:])
    return (*ends, words[3], words[4], *numbers)


def deed_in(words):
    """What a row of a deed says."""
    if len(words) < 3:
        return None
    return (words[1], tuple([tuple(word.split(":")) for word in words[2:]]))


def sensor_in(words):
    """What a row of a sensor says."""
    if len(words) == 5:
        return (words[1], words[2], tuple(words[3].split(",")), number_in(words[4], MOST_FIGURE))
    return tuple(words[1:])


READERS = {
    "works": name_in,
    "box": box_in,
    "part": part_in,
    "pipe": pipe_in,
    "deed": deed_in,
    "sensor": sensor_in,
}


def has_place(found, kind):
    """Whether a row of that kind may stand behind the rows found ahead."""
    if kind not in KINDS:
        return False
    at = KINDS.index(kind)
    wanted = [found[one] for one in KINDS[:min(at, WANTED)]]
    later = [found[one] for one in KINDS[at + 1:]]
    return all(wanted) and not any(later) and len(found[kind]) < MOST_OF[kind]


def is_right(found, kind, thing):
    """Whether what a row says may be of its kind, by the boxes and parts found ahead."""
    match kind:
        case "works":
            return is_name(thing)
        case "box":
            return is_box(thing)
        case "part":
            return is_part(thing)
        case "pipe":
            return is_pipe(thing, found["box"], found["part"])
        case "deed":
            return is_deed(thing, found["part"])
        case _:
            return is_sensor(thing, found["box"], found["part"])


def goes_on(found, kind, thing):
    """Whether a row's NAME is greater than the last one of its kind, where these must rise."""
    if kind == "pipe" or not found[kind]:
        return True
    return found[kind][-1][0] < thing[0]


def thing_in(found, row):
    """The kind of a row and what it says, where it may stand behind those found ahead; else None."""
    words = row.split(" ")
    kind = words[0]
    if "" in words or not has_place(found, kind):
        return None
    reader = READERS[kind]
    thing = reader(words)
    if not is_right(found, kind, thing) or not goes_on(found, kind, thing):
        return None
    return (kind, thing)


def works_in(text):
    """The works that has this text."""
    rows = text.split("\n")
    found = {kind: [] for kind in KINDS}
    for at, row in enumerate(rows):
        told = thing_in(found, row)
        if told is None:
            raise BadRow(at)
        kind, thing = told
        found[kind].append(thing)
    if not found["box"] or not found["part"]:
        raise BadRow(len(rows))
    lists = [tuple(found[kind]) for kind in KINDS[1:]]
    return (found["works"][0], *lists)
