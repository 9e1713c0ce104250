"""Papers that a lot explains a story, and none of fewer of its parts does."""

from worktwin.allowed import MOST
from worktwin.lots import lots, without
from worktwin.nonepapers import none_paper, shows_none
from worktwin.runs import shows_run, some_run
from worktwin.words import is_tuple_of


def lot_paper(works, story, lot, *, most=MOST):
    """A run by that lot, and for each of its parts a paper that there's none without; None of all but lots."""
    if tuple(lot) not in lots(works, story, most=most):
        return None
    rows = [(part, none_paper(works, story, lot=without(lot, (part,)), most=most)) for part in lot]
    return (some_run(works, story, lot, most), rows)


def shows_part(works, story, lot, part, thing):
    """Whether this is a pair of that part and a paper for the lot without it."""
    if not is_tuple_of(thing, 2) or thing[0] != part:
        return False
    return shows_none(works, story, thing[1], lot=without(lot, (part,)))


def shows_lot(works, story, lot, thing):
    """Whether this is a pair as lot_paper tells it of that lot."""
    if not is_tuple_of(thing, 2) or not shows_run(works, story, thing[0], lot=lot):
        return False
    rows = thing[1]
    if not isinstance(rows, list) or len(rows) != len(lot):
        return False
    return all([shows_part(works, story, lot, part, row) for part, row in zip(lot, rows)])
