"""The stands of a works: the mode of each part and the level of each box."""

from worktwin.words import is_tuple_of, is_within


def are_modes(works, thing):
    """Whether this is a tuple of a mode of each part."""
    parts = works[2]
    return is_tuple_of(thing, len(parts)) and all([mode in part[1] for part, mode in zip(parts, thing)])


def is_stand(works, thing):
    """Whether this is a stand of that works."""
    boxes = works[1]
    if not is_tuple_of(thing, 2) or not are_modes(works, thing[0]) or not is_tuple_of(thing[1], len(boxes)):
        return False
    return all([is_within(level, 0, box[1]) for box, level in zip(boxes, thing[1])])


def tupled(stand):
    """The same stand, made of tuples."""
    modes, levels = stand
    return (tuple(modes), tuple(levels))


def levels_within(spans):
    """The rising list of all levels that are, box by box, within these pairs of least and greatest."""
    found = [()]
    for low, high in spans:
        found = [(*ahead, level) for ahead in found for level in range(low, high + 1)]
    return found


def begin_stands(works):
    """The rising list of the stands in which a run may begin."""
    modes = tuple([part[1][0] for part in works[2]])
    return [(modes, levels) for levels in levels_within([(low, high) for name, cap, low, high in works[1]])]


def level_sum(works, stand, some):
    """The sum of the levels of the boxes that have these NAMEs."""
    return sum([level for box, level in zip(works[1], stand[1]) if box[0] in some])


def sum_span(works, stands, some):
    """The pair of the least and the greatest sum of the levels of these boxes, in one or more stands."""
    found = [level_sum(works, stand, some) for stand in stands]
    return (min(found), max(found))


def mode_in(works, stand, name):
    """The mode in which the part of that NAME stands."""
    for part, mode in zip(works[2], stand[0]):
        if part[0] == name:
            return mode
    return None
