"""What a beat does: modes that parts may come to stand in, and what flows in these modes."""

from worktwin.errors import NoDeed
from worktwin.works import WAIT

WITHOUT = -1


def due_modes(works, modes, deed):
    """The due mode of each part, behind these modes; refused where the works has no such deed."""
    if deed == WAIT:
        return tuple(modes)
    for name, sets in works[4]:
        if name == deed:
            turned = {part: mode for part, mode in sets}
            return tuple([turned.get(part[0], mode) for part, mode in zip(works[2], modes)])
    raise NoDeed(deed)


def mode_choices(works, modes, deed, lot):
    """All modes, each once, that the parts may stand in behind these ones, those of the lot acting otherwise."""
    due = due_modes(works, modes, deed)
    found = [()]
    for part, stood, turned in zip(works[2], modes, due):
        name, every, odd = part
        choices = [turned]
        if name in lot:
            choices = sorted(set([turned, stood, *odd]))
        found = [(*ahead, mode) for ahead in found for mode in choices]
    return found


def flowing(works, modes):
    """The pipes that flow in these modes, each as (ends, least, most), in their order.

    The ends are the places of source and goal among the boxes, and the cap of the goal.
    """
    standing = {part[0]: mode for part, mode in zip(works[2], modes)}
    places = {box[0]: at for at, box in enumerate(works[1])}
    caps = {box[0]: box[1] for box in works[1]}
    found = []
    for source, goal, part, mode, least, most in works[3]:
        if standing[part] == mode:
            ends = (places.get(source, WITHOUT), places.get(goal, WITHOUT), caps.get(goal, 0))
            found.append((ends, least, most))
    return found


def moved(levels, ends, amount):
    """The levels behind that amount is moved, cut to what the source holds and the goal has room for."""
    source, goal, cap = ends
    if source != WITHOUT:
        amount = min(amount, levels[source])
    if goal != WITHOUT:
        amount = min(amount, cap - levels[goal])
    after = list(levels)
    if source != WITHOUT:
        after[source] -= amount
    if goal != WITHOUT:
        after[goal] += amount
    return tuple(after)


def flowed(pipes, starts):
    """The rising list of all levels to which these pipes may bring some of those at the start."""
    found = sorted(starts)
    for ends, least, most in pipes:
        amounts = list(range(least, most + 1))
        found = sorted({moved(levels, ends, amount) for levels in found for amount in amounts})
    return found


def levels_by_modes(stands):
    """By the modes of these stands: the levels, as keys, that stand beside them."""
    held = {}
    for modes, levels in stands:
        if modes not in held:
            held[modes] = {}
        held[modes][levels] = True
    return held


def choices_by_modes(works, held, deed, lot):
    """By each of these modes: all that the parts may stand in behind them."""
    return {modes: mode_choices(works, modes, deed, lot) for modes in held}


def starts_by_choice(held, choices):
    """By the modes that may stand behind: the levels, as keys, from which they flow."""
    # What flows hangs on the modes behind alone, so each start flows once, whatever modes it had.
    starts = {}
    for modes in held:
        for choice in choices[modes]:
            if choice not in starts:
                starts[choice] = {}
            for levels in held[modes]:
                starts[choice][levels] = True
    return starts


def behind_all(works, stands, deed, lot):
    """The rising list of all stands that may be behind some of these."""
    held = levels_by_modes(stands)
    starts = starts_by_choice(held, choices_by_modes(works, held, deed, lot))
    found = []
    for modes in sorted(starts):
        pipes = flowing(works, modes)
        found.extend([(modes, levels) for levels in flowed(pipes, starts[modes])])
    return found


def reaching(pipes, starts, goals):
    """The levels at the start, as keys, from which these pipes may bring one of the goals."""
    found = {}
    for levels in starts:
        if any([after in goals for after in flowed(pipes, [levels])]):
            found[levels] = True
    return found


def leading_to(works, stands, deed, lot, goals):
    """Those of these stands behind which one of the goals may be."""
    held = levels_by_modes(stands)
    aims = levels_by_modes(goals)
    choices = choices_by_modes(works, held, deed, lot)
    starts = starts_by_choice(held, choices)
    reach = {}
    for modes in starts:
        if modes in aims:
            reach[modes] = reaching(flowing(works, modes), starts[modes], aims[modes])
    return [
        (modes, levels)
        for modes, levels in stands
        if any([choice in reach and levels in reach[choice] for choice in choices[modes]])
    ]
