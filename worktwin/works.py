"""What a works is: boxes, parts, pipes, deeds and sensors."""

from worktwin.words import is_name, is_tuple_of, is_tuple_within, is_within, rises

MOST_OF = {"works": 1, "box": 3, "part": 4, "pipe": 5, "deed": 4, "sensor": 5}
MOST_CAP = 9
MOST_FLOW = 9
MOST_SPREAD = 2
MOST_SLIP = 3
WAIT = "wait"


def names_of(rows):
    """The NAMEs under which these boxes, parts, deeds or sensors stand."""
    return [row[0] for row in rows]


def modes_of(parts, name):
    """The modes of the part of that NAME, none where there's no such part."""
    for part in parts:
        if part[0] == name:
            return part[1]
    return ()


def is_box(thing):
    """Whether this may be a box."""
    if not is_tuple_of(thing, 4):
        return False
    name, cap, low, high = thing
    if not is_name(name) or not is_within(cap, 1, MOST_CAP):
        return False
    return is_within(high, 0, cap) and is_within(low, 0, high)


def is_part(thing):
    """Whether this may be a part."""
    if not is_tuple_of(thing, 3):
        return False
    name, modes, odd = thing
    if not is_name(name) or not is_tuple_within(modes, 2, 3):
        return False
    if not all([is_name(mode) for mode in modes]) or len(set(modes)) < len(modes):
        return False
    return isinstance(odd, tuple) and all([mode in modes for mode in odd]) and rises(odd)


def is_pipe(thing, boxes, parts):
    """Whether this may be a pipe between these boxes."""
    if not is_tuple_of(thing, 6):
        return False
    source, goal, part, mode, least, most = thing
    ends = names_of(boxes) + [""]
    if source not in ends or goal not in ends or source == goal:
        return False
    if mode not in modes_of(parts, part) or not is_within(least, 0, MOST_FLOW):
        return False
    return is_within(most, least, min(MOST_FLOW, least + MOST_SPREAD))


def is_setting(thing, parts):
    """Whether this is a part's NAME and a mode of that part."""
    return is_tuple_of(thing, 2) and thing[1] in modes_of(parts, thing[0])


def is_deed(thing, parts):
    """Whether this may be a deed that turns some of these parts."""
    if not is_tuple_of(thing, 2):
        return False
    name, sets = thing
    if not is_name(name) or name == WAIT or not isinstance(sets, tuple) or len(sets) == 0:
        return False
    return all([is_setting(one, parts) for one in sets]) and rises(names_of(sets))


def is_some(thing, names):
    """Whether this is a rising tuple of one or more of these NAMEs."""
    if not isinstance(thing, tuple) or len(thing) == 0:
        return False
    return all([name in names for name in thing]) and rises(thing)


def is_sensor(thing, boxes, parts):
    """Whether this may be a sensor of these boxes or parts."""
    if is_tuple_of(thing, 4):
        name, sort, some, slip = thing
        return is_name(name) and sort == "sum" and is_some(some, names_of(boxes)) and is_within(slip, 0, MOST_SLIP)
    if is_tuple_of(thing, 3):
        name, sort, part = thing
        return is_name(name) and sort == "part" and part in names_of(parts)
    return False


def are_boxes(thing):
    """Whether this is the tuple of a works' boxes."""
    if not is_tuple_within(thing, 1, MOST_OF["box"]):
        return False
    return all([is_box(box) for box in thing]) and rises(names_of(thing))


def are_parts(thing):
    """Whether this is the tuple of a works' parts."""
    if not is_tuple_within(thing, 1, MOST_OF["part"]):
        return False
    return all([is_part(part) for part in thing]) and rises(names_of(thing))


def are_pipes(thing, boxes, parts):
    """Whether this is the tuple of the pipes of a works with these boxes and parts."""
    if not is_tuple_within(thing, 0, MOST_OF["pipe"]):
        return False
    return all([is_pipe(pipe, boxes, parts) for pipe in thing])


def are_deeds(thing, parts):
    """Whether this is the tuple of the deeds of a works with these parts."""
    if not is_tuple_within(thing, 0, MOST_OF["deed"]):
        return False
    return all([is_deed(deed, parts) for deed in thing]) and rises(names_of(thing))


def are_sensors(thing, boxes, parts):
    """Whether this is the tuple of the sensors of a works with these boxes and parts."""
    if not is_tuple_within(thing, 0, MOST_OF["sensor"]):
        return False
    return all([is_sensor(sensor, boxes, parts) for sensor in thing]) and rises(names_of(thing))


def is_works(thing):
    """Whether this is a works."""
    if not is_tuple_of(thing, 6):
        return False
    name, boxes, parts, pipes, deeds, sensors = thing
    if not is_name(name) or not are_boxes(boxes) or not are_parts(parts):
        return False
    return are_pipes(pipes, boxes, parts) and are_deeds(deeds, parts) and are_sensors(sensors, boxes, parts)
