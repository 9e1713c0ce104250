"""What the signs allow: the stands that are open, and those that are allowed, at each beat."""

from worktwin.errors import TooMany
from worktwin.moves import behind_all, leading_to
from worktwin.signs import fitting
from worktwin.stands import begin_stands

MOST = 200


def open_at(works, stands, signs, beat, most):
    """Those of these stands that fit the signs of that beat; refused where there are more than most."""
    found = fitting(works, stands, signs, beat)
    if len(found) > most:
        raise TooMany(most)
    return found


def opened(works, story, *, lot=(), most=MOST):
    """For each beat the rising list of all stands that are open."""
    deeds, signs = story
    stands = open_at(works, begin_stands(works), signs, 0, most)
    found = [stands]
    for at, deed in enumerate(deeds):
        stands = open_at(works, behind_all(works, stands, deed, lot), signs, at + 1, most)
        found.append(stands)
    return found


def allowed(works, story, *, lot=(), most=MOST):
    """For each beat the rising list of all stands that are allowed."""
    found = opened(works, story, lot=lot, most=most)
    # From the last beat back, a stand stays where it leads to one that stays.
    for at in range(len(story[0]) - 1, -1, -1):
        found[at] = leading_to(works, found[at], story[0][at], lot, found[at + 1])
    return found
