"""A desk: a room that is asked row by row, and runs of rows that are kept or taken back as one."""

from worktwin.allowed import MOST
from worktwin.claimtext import claim_in
from worktwin.deskrows import PARTER, deskrow_in
from worktwin.errors import BadText, Busy, NoBox
from worktwin.room import Room
from worktwin.storytext import story_text
from worktwin.works import names_of
from worktwin.worktext import works_text

DEEP = 2
MOST_BEATS = 3
NONE = "-"
NOTHING = "+"


def told_together(texts):
    """Several texts as one."""
    return " ".join(texts) or NONE


def stand_text(stand):
    """The text of a stand."""
    modes, levels = stand
    return ",".join(modes) + ":" + ",".join([str(level) for level in levels])


def begin_answer(room, name, works):
    """What is told of a row begin."""
    room.begin(name, works)
    return "done"


def end_answer(room, name):
    """What is told of a row end."""
    room.end(name)
    return "done"


def deed_answer(room, name, deed):
    """What is told of a row deed."""
    return str(room.deed(name, deed))


def sign_answer(room, name, beat, sensor, reading):
    """What is told of a row sign."""
    return "fits" if room.sign(name, beat, sensor, reading) else "parted"


def join_answer(room, name, other):
    """What is told of a row join."""
    return str(room.join(name, other))


def undo_answer(room):
    """What is told of a row undo."""
    return "done" if room.undo() else "none"


def names_answer(room):
    """What is told of a row names."""
    return told_together(room.names())


def reckoned_answer(room):
    """What is told of a row reckoned."""
    return str(room.reckoned())


def now_answer(room, name):
    """What is told of a row now."""
    return str(room.twin(name).now())


def works_answer(room, name):
    """What is told of a row works."""
    return works_text(room.twin(name).works()).replace("\n", PARTER)


def story_answer(room, name):
    """What is told of a row story."""
    return story_text(room.twin(name).story()).replace("\n", PARTER)


def lots_answer(room, name):
    """What is told of a row lots."""
    return told_together([",".join(lot) or NOTHING for lot in room.twin(name).lots()])


def model_answer(room, name):
    """What is told of a row model."""
    return stand_text(room.twin(name).model()[-1])


def stands_answer(room, name, beat):
    """What is told of a row stands."""
    return told_together([stand_text(stand) for stand in room.twin(name).stands(beat)])


def bounds_answer(room, name, beat, some):
    """What is told of a row bounds."""
    twin = room.twin(name)
    for box in some:
        if box not in names_of(twin.works()[1]):
            raise NoBox(box)
    low, high = twin.bounds(beat, some)
    return f"{low} {high}"


def sure_answer(room, name, beat, text):
    """What is told of a row sure."""
    twin = room.twin(name)
    stand = twin.failing(beat, claim_in(twin.works(), text))
    return "sure" if stand is None else stand_text(stand)


def plan_answer(room, name, beats, text):
    """What is told of a row plan."""
    twin = room.twin(name)
    deeds = twin.plan(claim_in(twin.works(), text), beats=beats)
    return NONE if deeds is None else " ".join(deeds) or NOTHING


def comes_answer(room, name, deeds):
    """What is told of a row comes."""
    return told_together([str(len(stands)) for stands in room.twin(name).what_if(deeds)])


ANSWERS = {
    "begin": begin_answer,
    "end": end_answer,
    "deed": deed_answer,
    "sign": sign_answer,
    "join": join_answer,
    "undo": undo_answer,
    "names": names_answer,
    "reckoned": reckoned_answer,
    "now": now_answer,
    "works": works_answer,
    "story": story_answer,
    "lots": lots_answer,
    "model": model_answer,
    "stands": stands_answer,
    "bounds": bounds_answer,
    "sure": sure_answer,
    "plan": plan_answer,
    "comes": comes_answer,
}


def row_in(row):
    """What a row says; refused too where a plan would have too many beats."""
    told = deskrow_in(row)
    if told[0] == "plan" and told[2] > MOST_BEATS:
        raise BadText(row)
    return told


def answered(room, told):
    """Does what a row says, and tells its text."""
    word, *things = told
    answer = ANSWERS[word]
    return answer(room, *things)


class Desk:
    """A room, the runs that are under way, and a log of all runs."""

    def __init__(self, *, most=MOST):
        self.held = Room(most=most)
        self.under_way = 0
        self.notes = []

    def ask(self, row):
        """Does a row, and tells its text."""
        told = row_in(row)
        if told[0] == "again":
            raise BadText(row)
        return answered(self.held, told)

    def done_at(self, rows, at, deep):
        """Does the row at that place of a run of these, and tells its text."""
        told = row_in(rows[at])
        if told[0] != "again":
            return answered(self.held, told)
        many = told[1]
        if many > at:
            raise BadText(rows[at])
        if self.under_way >= deep:
            raise Busy(deep)
        self.done(rows[at - many:at], deep)
        return str(many)

    def done(self, rows, deep):
        """Does these rows as one run, and tells their texts."""
        texts = []
        many = 0
        self.notes.append(("begin", len(rows)))
        self.under_way += 1
        try:
            for at in range(len(rows)):
                texts.append(self.done_at(rows, at, deep))
                many += 1
        finally:
            self.under_way -= 1
            self.notes.append(("end", many))
        return texts

    def run(self, rows, *, keep=False, deep=DEEP):
        """Does these rows one by one; what they did is taken back where one is refused, and where it isn't kept."""
        after = self.held.like()
        try:
            texts = self.done(tuple(rows), deep)
            if keep:
                after = self.held
        finally:
            self.held = after
        return texts

    def is_open(self):
        """Whether no run is under way."""
        return self.under_way == 0

    def log(self):
        """The begin and the end of each run, in the order in which they came."""
        return list(self.notes)

    def room(self):
        """A like of its room, as it is now."""
        return self.held.like()
