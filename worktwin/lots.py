"""The least lots of parts that explain a story, acting otherwise."""

from worktwin.allowed import MOST, opened
from worktwin.words import tuples_of
from worktwin.works import names_of


def explains(works, story, lot, *, most=MOST):
    """Whether the story has a run by that lot."""
    return len(opened(works, story, lot=lot, most=most)[-1]) > 0


def has_all(some, lesser):
    """Whether all parts of the lesser one are among these."""
    return all([part in some for part in lesser])


def least_tuples(parts, is_such):
    """All tuples of these parts that is_such takes, and no lesser one within, those of fewer parts first."""
    found = []
    for one in sorted(tuples_of(parts), key=lambda some: (len(some), some)):
        if not any([has_all(one, lesser) for lesser in found]) and is_such(one):
            found.append(one)
    return found


def meets(some, lot):
    """Whether one of these parts at least is in the lot."""
    return any([part in lot for part in some])


def meeting(parts, known):
    """The least tuples of these parts that have a part of each of the known ones."""
    return least_tuples(parts, lambda some: all([meets(some, lot) for lot in known]))


def without(parts, some):
    """The lot of all other ones of these parts."""
    return tuple([part for part in parts if part not in some])


def least_lots(works, story, most):
    """All least lots that explain the story, those of fewer parts first."""
    parts = names_of(works[2])
    # By all parts most stands are open: where these aren't too many, no lesser lot's are.
    if not explains(works, story, parts, most=most):
        return []
    return least_tuples(parts, lambda lot: explains(works, story, lot, most=most))


def lots(works, story, *, most=MOST):
    """All least lots that explain the story, those of fewer parts first."""
    return least_lots(works, story, most)


def cores(works, story, *, most=MOST):
    """All least tuples of parts that have a part of each lot that explains the story, likewise."""
    return meeting(names_of(works[2]), least_lots(works, story, most))


def blamed(works, story, *, most=MOST):
    """The pair of the parts that all of the least lots have, and of those that some have."""
    known = least_lots(works, story, most)
    parts = names_of(works[2])
    some = tuple([part for part in parts if any([part in lot for lot in known])])
    return (tuple([part for part in some if all([part in lot for lot in known])]), some)
