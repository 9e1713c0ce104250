"""Claims: what may be said of a stand."""

from worktwin.stands import level_sum, mode_in
from worktwin.words import is_tuple_of, is_within
from worktwin.works import is_some, modes_of, names_of

MOST_SUM = 40
JOINERS = ("all", "any")


def is_sum_claim(works, thing):
    """Whether this is a claim of a sum."""
    if not is_tuple_of(thing, 4):
        return False
    word, some, low, high = thing
    if word != "sum" or not is_some(some, names_of(works[1])):
        return False
    return is_within(low, 0, MOST_SUM) and is_within(high, 0, MOST_SUM)


def is_mode_claim(works, thing):
    """Whether this is a claim of a part's mode."""
    if not is_tuple_of(thing, 3):
        return False
    word, part, modes = thing
    return word == "mode" and is_some(modes, modes_of(works[2], part))


def may_be_claim(works, thing):
    """Whether this is a claim, if those are that stand straight within it."""
    if is_tuple_of(thing, 2):
        return thing[0] == "not" or (thing[0] in JOINERS and isinstance(thing[1], tuple))
    return is_sum_claim(works, thing) or is_mode_claim(works, thing)


def claims_of(claim):
    """The claims that stand straight within this one."""
    if claim[0] == "not":
        return [claim[1]]
    return list(claim[1]) if claim[0] in JOINERS else []


# A claim that is read from a text may be deeper than Python's calls go: so lists of what waits, and no call within.


def is_claim(works, thing):
    """Whether this is a claim of that works."""
    waiting = [thing]
    while waiting:
        one = waiting.pop()
        if not may_be_claim(works, one):
            return False
        waiting.extend(claims_of(one))
    return True


def claims_within(claim):
    """This claim and all within it, each ahead of its own, the last of these first."""
    found, waiting = [], [claim]
    while waiting:
        one = waiting.pop()
        found.append(one)
        waiting.extend(claims_of(one))
    return found


def holds_by(works, claim, stand, known):
    """Whether a claim holds, known being of those straight within whether they do."""
    match claim[0]:
        case "sum":
            return claim[2] <= level_sum(works, stand, claim[1]) <= claim[3]
        case "mode":
            return mode_in(works, stand, claim[1]) in claim[2]
        case "not":
            return not known[0]
        case "all":
            return all(known)
        case _:
            return any(known)


def holds(works, claim, stand):
    """Whether the claim holds in that stand."""
    found = []
    for one in reversed(claims_within(claim)):
        ahead = len(found) - len(claims_of(one))
        known = found[ahead:]
        del found[ahead:]
        found.append(holds_by(works, one, stand, known))
    return found[0]
