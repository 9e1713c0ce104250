"""Papers that show that there's no run: at some beat none of all stands that might be there is left."""

from worktwin.allowed import MOST, open_behind, opened
from worktwin.claims import holds
from worktwin.stands import is_stand
from worktwin.words import is_rising_list


def left_behind(works, rows, story, lot, where):
    """What is left at the beat behind these rows: it may be there behind the last of them, by signs and claims."""
    claims = [claim for at, claim in where if at == len(rows)]
    found = open_behind(works, story, rows, lot)
    return [stand for stand in found if all([holds(works, claim, stand) for claim in claims])]


def paper_from(works, story, rows, lot, where):
    """A paper that begins with these rows, each of some stands; None where at each beat behind some are left."""
    # Copied, so that papers that begin alike have no list together.
    found = [list(row) for row in rows]
    while len(found) <= len(story[0]):
        found.append(left_behind(works, found, story, lot, where))
        if not found[-1]:
            return found
    return None


def none_paper(works, story, *, lot=(), where=(), most=MOST):
    """None where there's a run in which the claims hold at their beats; else a paper that there's none."""
    # What is open counts, whatever the claims leave of it.
    opened(works, story, lot=lot, most=most)
    return paper_from(works, story, [], lot, where)


def is_paper(works, thing, beats):
    """Whether this is a list of rising lists of stands, at most so many, just the last one of none."""
    if not isinstance(thing, list) or not 1 <= len(thing) <= beats:
        return False
    if not all([is_rising_list(row, lambda one: is_stand(works, one)) for row in thing]):
        return False
    return all(thing[:-1]) and not thing[-1]


def shows_none(works, story, thing, *, lot=(), where=()):
    """Whether this is a paper that there's no run in which the claims hold at their beats."""
    if not is_paper(works, thing, len(story[0]) + 1):
        return False
    for beat, row in enumerate(thing):
        needed = left_behind(works, thing[:beat], story, lot, where)
        if len(set(needed) - set(row)) > 0:
            return False
    return True
