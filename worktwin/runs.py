"""Runs: stands, one for each beat of a story, as the works may have gone through them."""

from worktwin.allowed import MOST, allowed
from worktwin.moves import behind_all, leading_to
from worktwin.signs import fits
from worktwin.stands import begin_stands, is_stand, tupled
from worktwin.stories import check_beat


def run_through(works, deeds, rows, beat, stand, lot):
    """A run that has at that beat that stand, one of those allowed there; rows are all that is allowed."""
    # What is allowed leads back to a beginning and on to the end, so no step of either way fails.
    run = [stand]
    for at in range(beat - 1, -1, -1):
        run.insert(0, leading_to(works, rows[at], deeds[at], lot, [run[0]])[0])
    for at in range(beat, len(deeds)):
        coming = behind_all(works, [run[-1]], deeds[at], lot)
        run.append([one for one in coming if one in rows[at + 1]][0])
    return run


def some_run(works, story, lot, most):
    """A run by a lot that explains the story."""
    rows = allowed(works, story, lot=lot, most=most)
    return run_through(works, story[0], rows, 0, rows[0][0], lot)


def run_with(works, story, beat, stand, *, lot=(), most=MOST):
    """A run that has that stand at that beat; None where there's none."""
    check_beat(story, beat)
    rows = allowed(works, story, lot=lot, most=most)
    wanted = tupled(stand)
    return run_through(works, story[0], rows, beat, wanted, lot) if wanted in rows[beat] else None


def goes(works, deeds, run, lot):
    """Whether these stands, one for each beat, begin and follow each other by these deeds."""
    if run[0] not in begin_stands(works):
        return False
    return all([
        after in behind_all(works, [ahead], deed, lot)
        for ahead, deed, after in zip(run, deeds, run[1:])
    ])


def shows_run(works, story, thing, *, lot=()):
    """Whether this is a run of that story."""
    deeds, signs = story
    if not isinstance(thing, list) or len(thing) != len(deeds) + 1:
        return False
    if not all([is_stand(works, stand) for stand in thing]):
        return False
    return goes(works, deeds, thing, lot) and all([fits(works, thing[sign[0]], sign) for sign in signs])
