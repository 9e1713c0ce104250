"""The account of a story: its lots, its cores, and the bounds of each box, with runs and papers of all of them."""

from worktwin.allowed import MOST, allowed_of, opened
from worktwin.claims import MOST_SUM
from worktwin.lots import lots, meeting, without
from worktwin.nonepapers import none_paper, paper_from, shows_none
from worktwin.runs import run_through, shows_run, some_run
from worktwin.stands import sum_span
from worktwin.words import is_number, is_tuple_of, is_within, tuples_of
from worktwin.works import names_of


def under_claim(box, low):
    """The claim that the box holds less; None where it can't."""
    return ("sum", (box[0],), 0, low - 1) if low > 0 else None


def over_claim(box, high):
    """The claim that the box holds more; None where it can't."""
    return ("sum", (box[0],), high + 1, MOST_SUM) if high < box[1] else None


def spans_by(works, story, lot, most):
    """For each beat and each box its least and greatest level, by a lot that explains the story."""
    open_rows = opened(works, story, lot=lot, most=most)
    rows = allowed_of(works, story[0], open_rows, lot)

    def end_at(beat, at, level, claim):
        """The level, a run that has it there, and a paper that in none the claim holds there."""
        stand = [one for one in rows[beat] if one[1][at] == level][0]
        run = run_through(works, story[0], rows, beat, stand, lot)
        if claim is None:
            return (level, run, None)
        # The claim says nothing of the beats ahead, so all that is open there begins the paper.
        return (level, run, paper_from(works, story, open_rows[:beat], lot, [(beat, claim)]))

    found = []
    for beat, stands in enumerate(rows):
        for at, box in enumerate(works[1]):
            low, high = sum_span(works, stands, (box[0],))
            least = end_at(beat, at, low, under_claim(box, low))
            greatest = end_at(beat, at, high, over_claim(box, high))
            found.append((beat, box[0], *least, *greatest))
    return found


def account(works, story, *, most=MOST):
    """An account of that story."""
    known = lots(works, story, most=most)
    parts = names_of(works[2])
    well = [(lot, some_run(works, story, lot, most)) for lot in known]
    ill = [
        (core, none_paper(works, story, lot=without(parts, core), most=most))
        for core in meeting(parts, known)
    ]
    return (well, ill, spans_by(works, story, known[0], most) if known else [])


def shows_end(works, story, lot, place, end, claim):
    """Whether the run has the level at that beat in that box, and the paper is one for what is claimed there."""
    beat, at = place
    level, run, paper = end
    if not shows_run(works, story, run, lot=lot) or run[beat][1][at] != level:
        return False
    if claim is None:
        return paper is None
    return shows_none(works, story, paper, lot=lot, where=[(beat, claim)])


def shows_span(works, story, lot, place, thing):
    """Whether this tells the least and the greatest level of that box at that beat."""
    beat, at = place
    box = works[1][at]
    if not is_tuple_of(thing, 8) or not is_number(thing[0]) or thing[:2] != (beat, box[0]):
        return False
    low, high = thing[2], thing[5]
    if not is_within(low, 0, box[1]) or not is_within(high, 0, box[1]):
        return False
    if not shows_end(works, story, lot, place, thing[2:5], under_claim(box, low)):
        return False
    return shows_end(works, story, lot, place, thing[5:], over_claim(box, high))


def shows_spans(works, story, lot, things):
    """Whether these tell all bounds there are, by that lot."""
    places = [(beat, at) for beat in range(len(story[0]) + 1) for at in range(len(works[1]))]
    if len(things) != len(places):
        return False
    return all([shows_span(works, story, lot, place, thing) for place, thing in zip(places, things)])


def are_pairs(thing, tuples):
    """Whether this is a list of pairs, the first of each one of these tuples."""
    return isinstance(thing, list) and all([is_tuple_of(pair, 2) and pair[0] in tuples for pair in thing])


def shows_account(works, story, thing):
    """Whether this is an account of that story."""
    parts = names_of(works[2])
    tuples = tuples_of(parts)
    if not is_tuple_of(thing, 3) or not are_pairs(thing[0], tuples) or not are_pairs(thing[1], tuples):
        return False
    well, ill, spans = thing
    known, hitting = names_of(well), names_of(ill)
    if known != meeting(parts, hitting) or hitting != meeting(parts, known) or not isinstance(spans, list):
        return False
    if not all([shows_run(works, story, run, lot=lot) for lot, run in well]):
        return False
    if not all([shows_none(works, story, paper, lot=without(parts, core)) for core, paper in ill]):
        return False
    return shows_spans(works, story, known[0], spans) if known else not spans
