"""Deeds that lead somewhere from whatever stand is the true one, by whatever flows."""

from worktwin.allowed import MOST, last_allowed, open_on
from worktwin.claims import holds
from worktwin.moves import behind_all
from worktwin.signs import fits, readings
from worktwin.stories import is_deed_name
from worktwin.works import WAIT, names_of

BEATS = 2


class Search:
    """The lists of deeds that lead from stands to a goal.

    A list leads from several stands just where it leads from each of them, so that what is once known of a stand is
    of use wherever it comes up again.
    """

    def __init__(self, works, goal, keep, lot):
        self.plant = works
        self.goal = goal
        self.keep = keep
        self.lot = lot
        self.choices = sorted([WAIT, *names_of(works[4])])
        self.behind_known = {}
        self.lists_known = {}

    def behind_one(self, stand, deed):
        """All stands that may be behind that one."""
        asked = (stand, deed)
        if asked not in self.behind_known:
            self.behind_known[asked] = behind_all(self.plant, [stand], deed, self.lot)
        return self.behind_known[asked]

    def keeps(self, stand):
        """Whether that which is to be kept holds in that stand."""
        return self.keep is None or holds(self.plant, self.keep, stand)

    def found_from(self, stand, many):
        """All lists of so many deeds, as keys, that lead from that stand."""
        if not self.keeps(stand):
            return {}
        if many == 0:
            return {(): True} if holds(self.plant, self.goal, stand) else {}
        found = {}
        for deed in self.choices:
            for rest in self.from_all(self.behind_one(stand, deed), many - 1):
                longer = (deed, *rest)
                found[longer] = True
        return found

    def from_one(self, stand, many):
        """The same, asked once."""
        asked = (stand, many)
        if asked not in self.lists_known:
            self.lists_known[asked] = self.found_from(stand, many)
        return self.lists_known[asked]

    def from_all(self, stands, many):
        """All lists of so many deeds, as keys, that lead from all of these stands, one or more."""
        found = self.from_one(stands[0], many)
        for stand in stands[1:]:
            if not found:
                break
            others = self.from_one(stand, many)
            found = {one: True for one in found if one in others}
        return found

    def first_list(self, stands, beats):
        """The first list, of at most so many deeds, that leads from all of these; None where none does."""
        for many in range(beats + 1):
            found = list(self.from_all(stands, many))
            if found:
                return list(min(found))
        return None


def first_plan(works, stands, goal, keep, beats, lot):
    """The first list of at most so many deeds that leads from all of these stands; None where none does."""
    search = Search(works, goal, keep, lot)
    return search.first_list(stands, beats)


def plan(works, story, goal, *, keep=None, beats=BEATS, lot=(), most=MOST):
    """The first list of deeds that leads from all that is allowed at the last beat; None where none does."""
    return first_plan(works, last_allowed(works, story, lot, most), goal, keep, beats, lot)


def hold_in_all(works, claim, stands):
    """Whether a claim, if it's one, holds in all of these stands."""
    return claim is None or all([holds(works, claim, stand) for stand in stands])


def shows_plan(works, story, goal, thing, *, keep=None, lot=()):
    """Whether this is a list of deeds that leads from all that is allowed at the last beat."""
    if not isinstance(thing, list) or not all([is_deed_name(works, deed) for deed in thing]):
        return False
    # Nothing is said here of how many may be open.
    stands = open_on(works, story, [], lot, None)[-1]
    if not stands:
        return False
    for deed in thing:
        if not hold_in_all(works, keep, stands):
            return False
        stands = behind_all(works, stands, deed, lot)
    return hold_in_all(works, keep, stands) and hold_in_all(works, goal, stands)


def plans_by(search, stands, sensor, beats):
    """For each reading of the sensor that fits some of these (reading, deeds); None where of one no list leads."""
    works = search.plant
    told = sorted({reading for stand in stands for reading in readings(works, stand, sensor)})
    rows = []
    for reading in told:
        fitting = [stand for stand in stands if fits(works, stand, (0, sensor, reading))]
        deeds = search.first_list(fitting, beats)
        if deeds is None:
            return None
        rows.append((reading, deeds))
    return rows


def needed(works, story, goal, *, keep=None, beats=BEATS, lot=(), most=MOST):
    """The first sensor by whose sign, whatever it reads, a list leads, and these lists; None where none helps."""
    stands = last_allowed(works, story, lot, most)
    search = Search(works, goal, keep, lot)
    if search.first_list(stands, beats) is not None:
        return None
    for sensor in names_of(works[5]):
        rows = plans_by(search, stands, sensor, beats)
        if rows is not None:
            return (sensor, rows)
    return None
