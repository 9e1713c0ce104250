"""What the signs allow: the stands that are open, and those that are allowed, at each beat."""

from worktwin.errors import NoRun, TooMany
from worktwin.moves import behind_all, leading_to
from worktwin.signs import fitting
from worktwin.stands import begin_stands

MOST = 200


def check_many(stands, most):
    """Refuses more than most stands; any number goes where most is None."""
    if most is not None and len(stands) > most:
        raise TooMany(most)


def check_run(stands, lot):
    """Refuses a lot by which none of the stands of a beat is allowed."""
    if not stands:
        raise NoRun(tuple(lot))


def open_behind(works, story, rows, lot):
    """The rising list of the stands open at the beat behind these rows, those open at each beat ahead."""
    deeds, signs = story
    beat = len(rows)
    coming = behind_all(works, rows[-1], deeds[beat - 1], lot) if rows else begin_stands(works)
    return fitting(works, coming, signs, beat)


def open_on(works, story, rows, lot, most):
    """For each beat the stands that are open, those of the first beats being these rows; the others are reckoned."""
    found = list(rows)
    while len(found) <= len(story[0]):
        found.append(open_behind(works, story, found, lot))
        check_many(found[-1], most)
    return found


def allowed_of(works, deeds, rows, lot):
    """For each beat those that are allowed of the stands that are open there."""
    found = list(rows)
    # From the last beat back, a stand stays where it leads to one that stays.
    for at in range(len(deeds) - 1, -1, -1):
        found[at] = leading_to(works, found[at], deeds[at], lot, found[at + 1])
    return found


def opened(works, story, *, lot=(), most=MOST):
    """For each beat the rising list of all stands that are open."""
    return open_on(works, story, [], lot, most)


def allowed(works, story, *, lot=(), most=MOST):
    """For each beat the rising list of all stands that are allowed."""
    return allowed_of(works, story[0], opened(works, story, lot=lot, most=most), lot)


def last_allowed(works, story, lot, most):
    """The rising list of the stands allowed at the last beat, one at least; refused where there's none."""
    # No sign comes behind the last beat, so what is open there is allowed.
    stands = opened(works, story, lot=lot, most=most)[-1]
    check_run(stands, lot)
    return stands
