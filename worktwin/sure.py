"""What is sure: claims that hold in all that is allowed, and least and greatest sums."""

from worktwin.allowed import MOST, allowed, check_run
from worktwin.claims import holds
from worktwin.stands import sum_span
from worktwin.stories import check_beat


def allowed_at(works, story, beat, lot, most):
    """The rising list of the stands allowed at that beat, one at least; refused where there's none."""
    check_beat(story, beat)
    stands = allowed(works, story, lot=lot, most=most)[beat]
    check_run(stands, lot)
    return stands


def least_failing(works, claim, stands):
    """The first of these stands in which the claim doesn't hold; None where it holds in all."""
    for stand in stands:
        if not holds(works, claim, stand):
            return stand
    return None


def failing(works, story, beat, claim, *, lot=(), most=MOST):
    """The least stand allowed at that beat in which the claim doesn't hold; None where it holds in all."""
    return least_failing(works, claim, allowed_at(works, story, beat, lot, most))


def bounds(works, story, beat, some, *, lot=(), most=MOST):
    """The least and the greatest sum of the levels of these boxes in the stands allowed at that beat."""
    return sum_span(works, allowed_at(works, story, beat, lot, most), some)
