"""A twin: a works and its story, fed deed by deed and sign by sign, and what the signs allow kept beside it."""

from worktwin.allowed import MOST, allowed_of, check_run, open_on
from worktwin.errors import BadReading, NoBeat, NoDeed, NoSensor
from worktwin.leading import BEATS, first_list
from worktwin.lots import least_lots
from worktwin.model import model_of
from worktwin.signs import is_reading, sensor_of
from worktwin.stands import sum_span
from worktwin.stories import check_beat, is_deed_name
from worktwin.sure import least_failing
from worktwin.whatif import check_deeds, coming
from worktwin.words import is_within, tuples_in


class Twin:
    """One works, followed by its signs."""

    def __init__(self, works, *, lot=(), most=MOST):
        # Tuples throughout, so that nothing that is handed in is read later, nor what is given out changed.
        self.plant = tuples_in(works)
        self.lot = tuple(lot)
        self.most = most
        self.deeds = ()
        self.signs = ()
        self.rows = open_on(self.plant, (self.deeds, self.signs), [], self.lot, most)
        # What deeds, signs and rows were ahead of each deed and sign that stands.
        self.past = []
        self.counted = len(self.rows)

    def __eq__(self, other):
        return (
            isinstance(other, Twin)
            and self.plant == other.plant
            and self.lot == other.lot
            and self.most == other.most
            and self.deeds == other.deeds
            and self.signs == other.signs
        )

    def go_on(self, deeds, signs, beat):
        """Its story is that of these deeds and signs from now on; what is open is reckoned from that beat on."""
        rows = open_on(self.plant, (deeds, signs), self.rows[:beat], self.lot, self.most)
        self.past.append((self.deeds, self.signs, self.rows))
        self.deeds = deeds
        self.signs = signs
        self.rows = rows
        self.counted += len(rows) - beat

    def deed(self, name):
        """One beat more, with that deed: the number of that beat."""
        if not is_deed_name(self.plant, name):
            raise NoDeed(name)
        self.go_on((*self.deeds, name), self.signs, len(self.rows))
        return self.now()

    def check_sign(self, beat, sensor, reading):
        """Refuses what is no sign of its story."""
        if not is_within(beat, 0, self.now()):
            raise NoBeat(beat)
        known = sensor_of(self.plant, sensor)
        if known is None:
            raise NoSensor(sensor)
        if not is_reading(self.plant, known, reading):
            raise BadReading(reading)

    def sign(self, beat, sensor, reading):
        """A sign more: whether the story has a run by the lot, now."""
        self.check_sign(beat, sensor, reading)
        told = (beat, sensor, reading)
        if told in self.signs:
            # Nothing is open otherwise than it was, but it can be undone all the same.
            self.go_on(self.deeds, self.signs, len(self.rows))
        else:
            self.go_on(self.deeds, tuple(sorted([*self.signs, told])), beat)
        return len(self.rows[-1]) > 0

    def reckoned(self):
        """How many beats it had reckoned."""
        return self.counted

    def undo(self):
        """The last deed or sign that stands is as if it had never been: whether there's one."""
        if not self.past:
            return False
        self.deeds, self.signs, self.rows = self.past.pop()
        return True

    def now(self):
        """Its last beat."""
        return len(self.deeds)

    def story(self):
        """Its story, the signs rising, each once."""
        return (list(self.deeds), list(self.signs))

    def works(self):
        """Its works."""
        return self.plant

    def allowed_rows(self):
        """For each beat the rising list of the stands that are allowed."""
        return allowed_of(self.plant, self.deeds, self.rows, self.lot)

    def stands(self, beat):
        """The rising list of the stands allowed at that beat."""
        check_beat((self.deeds, self.signs), beat)
        return list(self.allowed_rows()[beat])

    def some_stands(self, beat):
        """The same, one at least; refused where there's no run."""
        found = self.stands(beat)
        check_run(found, self.lot)
        return found

    def bounds(self, beat, some):
        """The least and the greatest sum of the levels of these boxes in the stands allowed at that beat."""
        return sum_span(self.plant, self.some_stands(beat), some)

    def failing(self, beat, claim):
        """The least stand allowed at that beat in which the claim doesn't hold; None where it holds in all."""
        return least_failing(self.plant, claim, self.some_stands(beat))

    def lots(self):
        """All least lots that explain its story, whatever its own lot."""
        return least_lots(self.plant, self.story(), self.most)

    def model(self):
        """For each beat the stand that the model has there."""
        check_run(self.rows[-1], self.lot)
        return model_of(self.plant, self.deeds, self.allowed_rows())

    def what_if(self, deeds):
        """For each of these deeds the rising list of the stands at which runs may be behind it."""
        check_deeds(self.plant, deeds)
        return coming(self.plant, self.rows[-1], deeds, self.lot, self.most)

    def plan(self, goal, *, keep=None, beats=BEATS):
        """The first list of deeds that leads from all that is allowed at its last beat; None where none does."""
        check_run(self.rows[-1], self.lot)
        return first_list(self.plant, self.rows[-1], (goal, keep, beats, self.lot))

    def like(self):
        """One of its own that is the same."""
        other = Twin(self.plant, lot=self.lot, most=self.most)
        other.deeds = self.deeds
        other.signs = self.signs
        other.rows = self.rows
        other.past = list(self.past)
        other.counted = self.counted
        return other
