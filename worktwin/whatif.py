"""What deeds to come may bring."""

from worktwin.allowed import MOST, check_many, check_run, opened
from worktwin.errors import NoDeed
from worktwin.moves import behind_all
from worktwin.stands import sum_span
from worktwin.stories import is_deed_name


def check_deeds(works, deeds):
    """Refuses the first of these that is no deed's NAME."""
    for deed in deeds:
        if not is_deed_name(works, deed):
            raise NoDeed(deed)


def coming(works, stands, deeds, lot, most):
    """For each of these deeds the rising list of what may be behind it, these being allowed ahead of all."""
    # Where nothing is allowed, nothing is open behind it: so there can't be too many then.
    check_run(stands, lot)
    found = []
    for deed in deeds:
        ahead = found[-1] if found else stands
        found.append(behind_all(works, ahead, deed, lot))
        check_many(found[-1], most)
    return found


def what_if(works, story, deeds, *, lot=(), most=MOST):
    """For each of these deeds the rising list of the stands at which runs may be behind it."""
    check_deeds(works, deeds)
    return coming(works, opened(works, story, lot=lot, most=most)[-1], deeds, lot, most)


def what_bounds(works, story, deeds, some, *, lot=(), most=MOST):
    """For each of these deeds the least and the greatest sum of the levels of these boxes behind it."""
    return [sum_span(works, stands, some) for stands in what_if(works, story, deeds, lot=lot, most=most)]
