"""Papers that show that there's no run: at some beat none of all stands that might be there is left."""

from worktwin.allowed import MOST, opened
from worktwin.claims import holds
from worktwin.moves import behind_all
from worktwin.signs import fitting
from worktwin.stands import begin_stands, is_stand
from worktwin.words import is_rising_list


def left(works, stands, story, where, beat):
    """Those of these stands that fit the signs of that beat, and in which its claims hold."""
    claims = [claim for at, claim in where if at == beat]
    found = fitting(works, stands, story[1], beat)
    return [stand for stand in found if all([holds(works, claim, stand) for claim in claims])]


def left_behind(works, rows, story, lot, where):
    """What is left at the beat behind these rows, of all that may be there behind the last of them."""
    beat = len(rows)
    if beat == 0:
        return left(works, begin_stands(works), story, where, beat)
    return left(works, behind_all(works, rows[-1], story[0][beat - 1], lot), story, where, beat)


def none_paper(works, story, *, lot=(), where=(), most=MOST):
    """None where there's a run in which the claims hold at their beats; else a paper that there's none."""
    # What is open counts, whatever the claims leave of it.
    opened(works, story, lot=lot, most=most)
    rows = []
    for beat in range(len(story[0]) + 1):
        rows.append(left_behind(works, rows, story, lot, where))
        if not rows[-1]:
            return rows
    return None


def is_paper(works, thing, beats):
    """Whether this is a list of rising lists of stands, at most so many, just the last one of none."""
    if not isinstance(thing, list) or not 1 <= len(thing) <= beats:
        return False
    if not all([is_rising_list(row, lambda one: is_stand(works, one)) for row in thing]):
        return False
    return all(thing[:-1]) and not thing[-1]


def shows_none(works, story, thing, *, lot=(), where=()):
    """Whether this is a paper that there's no run in which the claims hold at their beats."""
    if not is_paper(works, thing, len(story[0]) + 1):
        return False
    for beat, row in enumerate(thing):
        needed = left_behind(works, thing[:beat], story, lot, where)
        if len(set(needed) - set(row)) > 0:
            return False
    return True
