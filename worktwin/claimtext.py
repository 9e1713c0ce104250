"""A claim as text, and back."""

from worktwin.claims import MOST_SUM, claims_of, is_claim
from worktwin.errors import BadText
from worktwin.words import number_in

# How many words belong together, by the first of them; else one.
TOGETHER = {"(": 2, "sum": 4, "mode": 3}


def pieces_of(claim):
    """What a claim's text is made of: texts, and the claims straight within, yet to be told."""
    if claim[0] == "sum":
        return [" ".join(["sum", ",".join(claim[1]), str(claim[2]), str(claim[3])])]
    if claim[0] == "mode":
        return [" ".join(["mode", claim[1], ",".join(claim[2])])]
    pieces = [f"({claim[0]}"]
    for one in claims_of(claim):
        pieces.extend([" ", one])
    return [*pieces, ")"]


def claim_text(claim):
    """The text of a claim."""
    told, waiting = [], [claim]
    while waiting:
        one = waiting.pop()
        if isinstance(one, str):
            told.append(one)
        else:
            waiting.extend(pieces_of(one)[::-1])
    return "".join(told)


def plain_claim(words):
    """What these words say, outside of brackets of their own; None where they say nothing."""
    if len(words) == 4:
        word, some, low, high = words
        return (word, tuple(some.split(",")), number_in(low, MOST_SUM), number_in(high, MOST_SUM))
    if len(words) == 3:
        word, part, modes = words
        return (word, part, tuple(modes.split(",")))
    return None


def bracket_claim(word, claims):
    """What a bracket of that word says, these claims being straight within; None where it says nothing."""
    if word != "not":
        return (word, tuple(claims))
    return (word, claims[0]) if len(claims) == 1 else None


def things_in(words):
    """The things, maybe claims, that these words say one behind the other, brackets being words of their own."""
    heads, rows = [], [[]]
    at = 0
    while at < len(words):
        many = TOGETHER.get(words[at], 1)
        taken = words[at:at + many]
        at += many
        if taken[0] == "(":
            heads.append(taken[-1])
            rows.append([])
        elif taken[0] == ")" and heads:
            claims = rows.pop()
            rows[-1].append(bracket_claim(heads.pop(), claims))
        else:
            rows[-1].append(plain_claim(taken))
    return [] if heads else rows[0]


def claim_in(works, text):
    """The claim that has this text."""
    # So each bracket is a word; a blank too many, also beside a bracket, makes an empty word, which says nothing.
    things = things_in(text.replace("(", "( ").replace(")", " )").split(" "))
    if len(things) != 1 or not is_claim(works, things[0]):
        raise BadText(text)
    return things[0]
