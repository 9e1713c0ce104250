"""Several stories of one works joined, and what all of them allow."""

from worktwin.allowed import MOST, allowed
from worktwin.errors import Unlike


def longest_deeds(stories):
    """The deeds of the longest of these stories; refused where two of them have not alike a deed of one beat."""
    longest = max([list(deeds) for deeds, signs in stories], key=len)
    for at, deed in enumerate(longest):
        if any([deeds[at] != deed for deeds, signs in stories if at < len(deeds)]):
            raise Unlike(at + 1)
    return longest


def joined(works, stories):
    """The story of the longest one's deeds and of the signs of all."""
    deeds = longest_deeds(stories)
    return (deeds, sorted({tuple(sign) for done, signs in stories for sign in signs}))


def shared(works, stories, *, lot=(), most=MOST):
    """For each beat that all of these have the rising list of the stands that each of them allows."""
    longest_deeds(stories)
    rows = [allowed(works, story, lot=lot, most=most) for story in stories]
    found = []
    for alike in zip(*rows):
        found.append([stand for stand in alike[0] if all([stand in stands for stands in alike])])
    return found
