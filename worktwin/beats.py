"""What may be, and what is expected, behind a beat."""

from worktwin.moves import behind_all, due_modes, flowing, moved
from worktwin.stands import tupled


def behind(works, stand, deed, *, lot=()):
    """The rising list of all stands that may be there behind that beat."""
    return behind_all(works, [tupled(stand)], deed, lot)


def expected(works, stand, deed):
    """The stand behind that beat, no part acting otherwise, each pipe moving the middle of its amounts."""
    modes = due_modes(works, stand[0], deed)
    levels = tuple(stand[1])
    for ends, least, most in flowing(works, modes):
        levels = moved(levels, ends, (least + most) // 2)
    return (modes, levels)
