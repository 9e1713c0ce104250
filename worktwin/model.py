"""The model: at each beat one allowed stand, the nearest to what is expected."""

from worktwin.allowed import MOST, allowed, check_run
from worktwin.beats import expected

FAR_MODE = 10


def distance(stand, other):
    """How far two stands are from each other."""
    modes = [FAR_MODE for mode, wanted in zip(stand[0], other[0]) if mode != wanted]
    return sum(modes) + sum([abs(level - wanted) for level, wanted in zip(stand[1], other[1])])


def nearest(stands, wanted):
    """The least of these rising stands of those that are nearest to the wanted one."""
    # Of several as near, Python tells the first one.
    return min(stands, key=lambda stand: distance(stand, wanted))


def model_of(works, deeds, rows):
    """The model by what is allowed at each beat."""
    found = [rows[0][0]]
    for deed, stands in zip(deeds, rows[1:]):
        found.append(nearest(stands, expected(works, found[-1], deed)))
    return found


def model(works, story, *, lot=(), most=MOST):
    """For each beat the stand that the model has there."""
    rows = allowed(works, story, lot=lot, most=most)
    check_run(rows[0], lot)
    return model_of(works, story[0], rows)


def corrected(works, story, *, lot=(), most=MOST):
    """The rising list of the beats, from 1, at which the model isn't as expected."""
    deeds = story[0]
    found = model(works, story, lot=lot, most=most)
    return [at + 1 for at, deed in enumerate(deeds) if found[at + 1] != expected(works, found[at], deed)]
