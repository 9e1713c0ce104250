"""Stories: the deeds that were done, and the signs that came."""

from worktwin.errors import NoBeat
from worktwin.signs import is_sign
from worktwin.words import is_tuple_of
from worktwin.works import WAIT, names_of


def is_deed_name(works, thing):
    """Whether this is the NAME of a deed of that works, or wait."""
    return thing == WAIT or thing in names_of(works[4])


def is_story(works, thing):
    """Whether this is a story of that works."""
    if not is_tuple_of(thing, 2):
        return False
    deeds, signs = thing
    if not isinstance(deeds, list) or not isinstance(signs, list):
        return False
    if not all([is_deed_name(works, deed) for deed in deeds]):
        return False
    return all([is_sign(works, sign) and sign[0] <= len(deeds) for sign in signs])


def told_story(works, story):
    """The same story with its signs rising, each once."""
    deeds, signs = story
    return (list(deeds), sorted({tuple(sign) for sign in signs}))


def check_beat(story, beat):
    """Refuses a number that is none of the story's beats."""
    if not 0 <= beat <= len(story[0]):
        raise NoBeat(beat)


def until(works, story, beat):
    """The story of that many first deeds, and of the signs of the beats up to it."""
    check_beat(story, beat)
    deeds, signs = story
    return (list(deeds[:beat]), [tuple(sign) for sign in signs if sign[0] <= beat])
