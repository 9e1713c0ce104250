"""A room of twins, each under its NAME."""

from worktwin.allowed import MOST
from worktwin.errors import Known, NoBeat, NoTwin, Unlike
from worktwin.twin import Twin


def are_unlike(twin, source):
    """Whether two twins have not alike their works, or a deed of one beat."""
    if twin.works() != source.works():
        return True
    own, others = twin.story()[0], source.story()[0]
    return any([deed != other for deed, other in zip(own, others)])


def new_signs(twin, source):
    """The signs of the source that the twin hasn't, rising; refused where one is of a beat that it hasn't."""
    own, others = twin.story()[1], source.story()[1]
    found = [sign for sign in others if sign not in own]
    for beat, sensor, reading in found:
        if beat > twin.now():
            raise NoBeat(beat)
    return found


class Room:
    """Several twins, and all that was done to them."""

    def __init__(self, *, most=MOST):
        self.most = most
        self.twins = {}
        # Of each thing done that stands (word, name, held): of an end its twin, of others how many a twin must undo.
        self.past = []
        self.counted = 0

    def __eq__(self, other):
        return isinstance(other, Room) and self.twins == other.twins

    def __len__(self):
        return len(self.twins)

    def known(self, name):
        """The twin of that name itself."""
        if name not in self.twins:
            raise NoTwin(name)
        return self.twins[name]

    def begin(self, name, works):
        """A new twin of that works, under that name."""
        if name in self.twins:
            raise Known(name)
        twin = Twin(works, most=self.most)
        self.twins[name] = twin
        self.past.append(("begin", name, 0))
        self.counted += twin.reckoned()

    def end(self, name):
        """The twin is there no more."""
        self.past.append(("end", name, self.known(name)))
        del self.twins[name]

    def deed(self, name, deed):
        """One beat more of that twin, with that deed: the number of that beat."""
        twin = self.known(name)
        ahead = twin.reckoned()
        beat = twin.deed(deed)
        self.past.append(("deed", name, 1))
        self.counted += twin.reckoned() - ahead
        return beat

    def sign(self, name, beat, sensor, reading):
        """A sign more of that twin: whether its story has a run, now."""
        twin = self.known(name)
        ahead = twin.reckoned()
        fits = twin.sign(beat, sensor, reading)
        self.past.append(("sign", name, 1))
        self.counted += twin.reckoned() - ahead
        return fits

    def join(self, name, other):
        """That twin gets all signs of the other one that it hasn't: how many."""
        twin = self.known(name)
        source = self.known(other)
        if are_unlike(twin, source):
            raise Unlike(other)
        found = new_signs(twin, source)
        ahead = twin.reckoned()
        for beat, sensor, reading in found:
            twin.sign(beat, sensor, reading)
        self.past.append(("join", name, len(found)))
        self.counted += twin.reckoned() - ahead
        return len(found)

    def undo(self):
        """The last thing done that stands is as if it had never been: whether there's one."""
        if not self.past:
            return False
        word, name, held = self.past.pop()
        if word == "begin":
            del self.twins[name]
        elif word == "end":
            self.twins[name] = held
        else:
            twin = self.twins[name]
            for at in range(held):
                twin.undo()
        return True

    def names(self):
        """The names of its twins, rising."""
        return sorted(self.twins)

    def twin(self, name):
        """A like of the twin of that name."""
        return self.known(name).like()

    def reckoned(self):
        """How many beats all its twins had reckoned, those that are there no more, too."""
        return self.counted

    def like(self):
        """One of its own that is the same."""
        other = Room(most=self.most)
        other.twins = {name: self.twins[name].like() for name in self.twins}
        # A twin that was ended may come back and go on, so it must be another one, too.
        other.past = [(word, name, held.like() if word == "end" else held) for word, name, held in self.past]
        other.counted = self.counted
        return other
