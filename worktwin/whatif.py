"""What deeds to come may bring."""

from worktwin.allowed import MOST, opened
from worktwin.errors import NoDeed, NoRun
from worktwin.stands import sum_span
from worktwin.stories import is_deed_name


def what_if(works, story, deeds, *, lot=(), most=MOST):
    """For each of these deeds the rising list of the stands at which runs may be behind it."""
    for deed in deeds:
        if not is_deed_name(works, deed):
            raise NoDeed(deed)
    done, signs = story
    # No signs come behind the story, so what is open at its last beat, and behind, is what is allowed there.
    found = opened(works, ([*done, *deeds], signs), lot=lot, most=most)
    if not found[-1]:
        raise NoRun(tuple(lot))
    return found[len(done) + 1:]


def what_bounds(works, story, deeds, some, *, lot=(), most=MOST):
    """For each of these deeds the least and the greatest sum of the levels of these boxes behind it."""
    return [sum_span(works, stands, some) for stands in what_if(works, story, deeds, lot=lot, most=most)]
