"""NAMEs, numbers, tuples and what rises: the plain questions that the other files share."""

LETTERS = "abcdefghijklmnopqrstuvwxyz"
FIGURES = "0123456789"
LONGEST_NAME = 8


def is_number(thing):
    """Whether this is a number."""
    # Python counts True and False among its whole numbers.
    return isinstance(thing, int) and not isinstance(thing, bool)


def is_within(thing, low, high):
    """Whether this is a number from low to high."""
    return is_number(thing) and low <= thing <= high


def is_name(thing):
    """Whether this is a NAME."""
    if not isinstance(thing, str) or not 1 <= len(thing) <= LONGEST_NAME:
        return False
    return all([letter in LETTERS for letter in thing])


def is_tuple_of(thing, many):
    """Whether this is a tuple of so many things."""
    return isinstance(thing, tuple) and len(thing) == many


def is_tuple_within(thing, least, most):
    """Whether this is a tuple of least to most things."""
    return isinstance(thing, tuple) and least <= len(thing) <= most


def tuples_in(thing):
    """The same thing, with a tuple for each list in it, itself too."""
    if isinstance(thing, (list, tuple)):
        return tuple([tuples_in(one) for one in thing])
    return thing


def rises(things):
    """Whether each of these, all of one kind, is greater than the one ahead."""
    return all([ahead < one for ahead, one in zip(things, things[1:])])


def is_rising_list(thing, is_one):
    """Whether this is a list that rises, of such as is_one takes alone."""
    return isinstance(thing, list) and all([is_one(one) for one in thing]) and rises(thing)


def tuples_of(names):
    """All tuples of some of these, in their order, the one of none too."""
    found = [()]
    for name in names:
        found = found + [(*ahead, name) for ahead in found]
    return found


def number_in(word, high):
    """The number, from 0 to high, that this word writes in plain figures; None where it writes none."""
    # Asked first, since Python reads no word of thousands of figures.
    if not 1 <= len(word) <= len(str(high)):
        return None
    if not all([figure in FIGURES for figure in word]):
        return None
    if word[0] == "0" and len(word) > 1:
        return None
    number = int(word)
    return number if number <= high else None
