"""Lumps: stands of like modes, their levels box by box within a pair of least and greatest."""

from worktwin.stands import are_modes, levels_within, tupled
from worktwin.words import is_rising_list, is_tuple_of, is_within


def joined_spans(spans):
    """These rising pairs of least and greatest, those that touch made one."""
    found = []
    for low, high in spans:
        if found and found[-1][1] + 1 == low:
            found[-1] = (found[-1][0], high)
        else:
            found.append((low, high))
    return found


def joined_along(rows, at):
    """The same stands in lumps, those made one that differ, and touch, at that box alone."""
    spans = {}
    for modes, ranges in rows:
        rest = (modes, ranges[:at], ranges[at + 1:])
        if rest not in spans:
            spans[rest] = []
        spans[rest].append(ranges[at])
    found = []
    for rest in spans:
        modes, ahead, after = rest
        found.extend([(modes, (*ahead, span, *after)) for span in joined_spans(sorted(spans[rest]))])
    return found


def lumps(works, stands):
    """A rising list of lumps that have just these stands, each once, no two of which make one."""
    rows = []
    for stand in stands:
        modes, levels = tupled(stand)
        rows.append((modes, tuple([(level, level) for level in levels])))
    # Joined along one box, none that touch are left there: joining along the next ones makes no new such two.
    for at in range(len(works[1])):
        rows = joined_along(rows, at)
    return sorted(rows)


def is_span(thing, cap):
    """Whether this is a pair of a least and a greatest level of a box with that cap."""
    return is_tuple_of(thing, 2) and is_within(thing[1], 0, cap) and is_within(thing[0], 0, thing[1])


def is_lump(works, thing):
    """Whether this is a lump of that works."""
    boxes = works[1]
    if not is_tuple_of(thing, 2) or not are_modes(works, thing[0]) or not is_tuple_of(thing[1], len(boxes)):
        return False
    return all([is_span(span, box[1]) for box, span in zip(boxes, thing[1])])


def size_of(lump):
    """How many stands a lump has."""
    many = 1
    for low, high in lump[1]:
        many *= high - low + 1
    return many


def stands_of(rows):
    """The stands of these lumps, one behind the other."""
    found = []
    for modes, ranges in rows:
        found.extend([(modes, levels) for levels in levels_within(ranges)])
    return found


def shows_lumps(works, stands, thing):
    """Whether this is a rising list of lumps that have just these stands, each once, no two of which make one."""
    if not is_rising_list(thing, lambda one: is_lump(works, one)):
        return False
    # Counted first, since lumps may have far more stands than are handed in.
    if sum([size_of(lump) for lump in thing]) != len(stands):
        return False
    if sorted(stands_of(thing)) != sorted([tupled(stand) for stand in stands]):
        return False
    return all([len(joined_along(thing, at)) == len(thing) for at in range(len(works[1]))])
