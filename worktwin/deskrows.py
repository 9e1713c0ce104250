"""The rows of a desk, read."""

from worktwin.errors import BadRow, BadText
from worktwin.words import is_name, number_in
from worktwin.worktext import works_in

PARTER = " / "
MOST_NUMBER = 40
MOST_COMING = 4

# By the first word the kinds of what stands behind; the last one has all the rest of the row.
KINDS_OF = {
    "begin": ("name", "works"),
    "end": ("name",),
    "deed": ("name", "name"),
    "sign": ("name", "number", "name", "reading"),
    "join": ("name", "name"),
    "undo": (),
    "names": (),
    "reckoned": (),
    "now": ("name",),
    "works": ("name",),
    "story": ("name",),
    "lots": ("name",),
    "model": ("name",),
    "stands": ("name", "number"),
    "bounds": ("name", "number", "boxes"),
    "sure": ("name", "number", "text"),
    "plan": ("name", "number", "text"),
    "comes": ("name", "deeds"),
    "again": ("many",),
}


def name_of(text):
    """The NAME that this is; None where it's none."""
    return text if is_name(text) else None


def number_of(text):
    """The number that this writes; None where it writes none."""
    return number_in(text, MOST_NUMBER)


def many_of(text):
    """The number from 1 that this writes; None where it writes none."""
    return number_of(text) or None


def reading_of(text):
    """The number that this writes, else the NAME that it is; None where it's neither."""
    return name_of(text) if number_of(text) is None else number_of(text)


def boxes_of(text):
    """The unlike NAMEs that stand here, parted by commas; None where it's otherwise."""
    names = text.split(",")
    return tuple(names) if all([is_name(name) for name in names]) and len(set(names)) == len(names) else None


def deeds_of(text):
    """The NAMEs, not too many, that stand here, parted by blanks; None where it's otherwise."""
    names = text.split(" ")
    return tuple(names) if all([is_name(name) for name in names]) and len(names) <= MOST_COMING else None


def works_of(text):
    """The works that has this text; None where none has."""
    try:
        return works_in(text.replace(PARTER, "\n"))
    except BadRow:
        return None


def text_of(text):
    """Any text of one sign or more; None of none."""
    return text or None


READERS = {
    "name": name_of,
    "number": number_of,
    "many": many_of,
    "reading": reading_of,
    "boxes": boxes_of,
    "deeds": deeds_of,
    "works": works_of,
    "text": text_of,
}


def things_in(kinds, rest):
    """What stands in the rest of a row, kind by kind; None for each that isn't so written, and where one is wanting."""
    texts = rest.split(" ", len(kinds) - 1)
    found = []
    for kind, text in zip(kinds, texts):
        reader = READERS[kind]
        found.append(reader(text))
    return found if len(texts) == len(kinds) else [None]


def deskrow_in(text):
    """A tuple of the row's first word and of what stands behind."""
    word, blank, rest = text.partition(" ")
    if "\n" in text or word not in KINDS_OF:
        raise BadText(text)
    kinds = KINDS_OF[word]
    if not kinds:
        things = [None] if blank else []
    else:
        things = things_in(kinds, rest)
    if None in things:
        raise BadText(text)
    return (word, *things)
