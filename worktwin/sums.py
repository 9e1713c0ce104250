"""Least and greatest sums of levels, and all that is within them."""

from worktwin.moves import levels_by_modes
from worktwin.stands import level_sum, levels_within, sum_span, tupled
from worktwin.words import tuples_of
from worktwin.works import names_of


def sums(works, stands):
    """The rising list of (some, low, high), of each rising tuple of boxes the least and the greatest sum."""
    found = []
    for some in sorted(tuples_of(names_of(works[1]))):
        if some:
            low, high = sum_span(works, stands, some)
            found.append((some, low, high))
    return found


def is_spanned(works, stand, told):
    """Whether each of these sums is, in that stand, from its least to its greatest."""
    return all([low <= level_sum(works, stand, some) <= high for some, low, high in told])


def spanned(works, stands):
    """The rising list of all stands whose modes some of these have, and whose sums are within those of these."""
    held = levels_by_modes([tupled(stand) for stand in stands])
    found = []
    for modes in sorted(held):
        alike = [(modes, levels) for levels in held[modes]]
        told = sums(works, alike)
        # Each box is within its own bounds, at least: far fewer to try than all levels.
        spans = [sum_span(works, alike, (name,)) for name in names_of(works[1])]
        tried = [(modes, levels) for levels in levels_within(spans)]
        found.extend([stand for stand in tried if is_spanned(works, stand, told)])
    return found
