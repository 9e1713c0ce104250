"""The refusals: each has the one field what, that which is refused."""


class BadRow(ValueError):
    """A row of a text that isn't so written, or can't stand there: its number."""

    def __init__(self, what):
        self.what = what


class BadText(ValueError):
    """A text that isn't so written."""

    def __init__(self, what):
        self.what = what


class BadReading(ValueError):
    """What is none of a sensor's readings."""

    def __init__(self, what):
        self.what = what


class NoDeed(LookupError):
    """A text that is no deed of the works."""

    def __init__(self, what):
        self.what = what


class NoBeat(LookupError):
    """What is no beat of the story."""

    def __init__(self, what):
        self.what = what


class NoSensor(LookupError):
    """A text that is no sensor's NAME."""

    def __init__(self, what):
        self.what = what


class NoBox(LookupError):
    """A text that is no box's NAME."""

    def __init__(self, what):
        self.what = what


class NoTwin(LookupError):
    """A text under which there's no twin."""

    def __init__(self, what):
        self.what = what


class NoRun(RuntimeError):
    """A lot by which the story has no run."""

    def __init__(self, what):
        self.what = what


class Unlike(RuntimeError):
    """What isn't alike where it must be."""

    def __init__(self, what):
        self.what = what


class Known(RuntimeError):
    """A NAME under which there's a twin already."""

    def __init__(self, what):
        self.what = what


class Busy(RuntimeError):
    """How many runs are under way at most."""

    def __init__(self, what):
        self.what = what


class TooMany(OverflowError):
    """How many stands may be open at most."""

    def __init__(self, what):
        self.what = what
