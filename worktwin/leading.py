"""Deeds that lead somewhere from whatever stand is the true one, by whatever flows."""

from worktwin.allowed import MOST, last_allowed, open_on
from worktwin.claims import holds
from worktwin.moves import behind_all
from worktwin.signs import fits, readings
from worktwin.stories import is_deed_name
from worktwin.works import WAIT, names_of

BEATS = 2


def hold_in_all(works, claim, stands):
    """Whether a claim, if it's one, holds in all of these stands."""
    if claim is not None:
        for stand in stands:
            if not holds(works, claim, stand):
                return False
    return True


def first_list(works, stands, aim):
    """The first list of deeds that leads from all of these stands; None where none does.

    The aim is (goal, keep, beats, lot).
    """
    goal, keep, beats, lot = aim
    names = sorted([WAIT, *names_of(works[4])])
    if not hold_in_all(works, keep, stands):
        return None
    if hold_in_all(works, goal, stands):
        return []
    seen = {tuple(stands): True}
    known = [([], stands)]
    for many in range(beats):
        longer = []
        for deeds, held in known:
            for name in names:
                coming = behind_all(works, held, name, lot)
                stood = tuple(coming)
                # What led on from stands that an earlier list came to has led on from there already.
                if stood in seen or not hold_in_all(works, keep, coming):
                    continue
                if hold_in_all(works, goal, coming):
                    return [*deeds, name]
                seen[stood] = True
                longer.append(([*deeds, name], coming))
        known = longer
    return None


def plan(works, story, goal, *, keep=None, beats=BEATS, lot=(), most=MOST):
    """The first list of deeds that leads from all that is allowed at the last beat; None where none does."""
    return first_list(works, last_allowed(works, story, lot, most), (goal, keep, beats, lot))


def shows_plan(works, story, goal, thing, *, keep=None, lot=()):
    """Whether this is a list of deeds that leads from all that is allowed at the last beat."""
    if not isinstance(thing, list) or not all([is_deed_name(works, deed) for deed in thing]):
        return False
    # Nothing is said here of how many may be open.
    stands = open_on(works, story, [], lot, None)[-1]
    if not stands:
        return False
    for deed in thing:
        if not hold_in_all(works, keep, stands):
            return False
        stands = behind_all(works, stands, deed, lot)
    return hold_in_all(works, keep, stands) and hold_in_all(works, goal, stands)


def lists_by(works, stands, aim, sensor):
    """For each reading of that sensor that fits one of these (reading, deeds); None where no list leads by one."""
    told = sorted({reading for stand in stands for reading in readings(works, stand, sensor)})
    rows = []
    for reading in told:
        deeds = first_list(works, [stand for stand in stands if fits(works, stand, (0, sensor, reading))], aim)
        if deeds is None:
            return None
        rows.append((reading, deeds))
    return rows


def needed(works, story, goal, *, keep=None, beats=BEATS, lot=(), most=MOST):
    """The first sensor by whose sign, whatever it reads, a list leads, and these lists; None where none helps."""
    stands = last_allowed(works, story, lot, most)
    aim = (goal, keep, beats, lot)
    if first_list(works, stands, aim) is not None:
        return None
    for sensor in names_of(works[5]):
        rows = lists_by(works, stands, aim, sensor)
        if rows is not None:
            return (sensor, rows)
    return None
