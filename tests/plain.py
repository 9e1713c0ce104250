"""Beats and runs as the document words them, tried one by one: slow, and apart from the package's own ways."""

import itertools

from tests.samples import any_deed


def may_stand(works, at, stood, mode, deed, lot):
    """Whether the part at that place may stand in a mode behind the beat."""
    name, _, odd = works[2][at]
    sets = dict(pair for known, pairs in works[4] if known == deed for pair in pairs)
    due = sets.get(name, stood)
    return mode == due or (name in lot and (mode == stood or mode in odd))


def flow(works, modes, levels, amounts):
    """The levels behind all pipes, each of which takes its own of these amounts."""
    held = {box[0]: level for box, level in zip(works[1], levels)}
    caps = {box[0]: box[1] for box in works[1]}
    standing = {part[0]: mode for part, mode in zip(works[2], modes)}
    for (source, goal, part, mode, _, _), amount in zip(works[3], amounts):
        if standing[part] != mode:
            continue
        cut = [amount]
        if source:
            cut.append(held[source])
        if goal:
            cut.append(caps[goal] - held[goal])
        if source:
            held[source] -= min(cut)
        if goal:
            held[goal] += min(cut)
    return tuple(held[box[0]] for box in works[1])


def behind(works, stand, deed, lot=()):
    """All stands that may be behind the beat."""
    found = set()
    for modes in itertools.product(*[part[1] for part in works[2]]):
        if all(may_stand(works, at, stand[0][at], mode, deed, lot) for at, mode in enumerate(modes)):
            for amounts in itertools.product(*[range(pipe[4], pipe[5] + 1) for pipe in works[3]]):
                found.add((modes, flow(works, modes, stand[1], amounts)))
    return sorted(found)


def fits(works, stand, sign):
    """Whether a sign fits a stand."""
    _, name, reading = sign
    sensor = [one for one in works[5] if one[0] == name][0]
    if sensor[1] == "part":
        return dict(zip([part[0] for part in works[2]], stand[0]))[sensor[2]] == reading
    levels = dict(zip([box[0] for box in works[1]], stand[1]))
    return sum(levels[box] for box in sensor[2]) - reading in range(-sensor[3], sensor[3] + 1)


def all_stands(works):
    """All stands of a works."""
    modes = itertools.product(*[part[1] for part in works[2]])
    return list(itertools.product(modes, itertools.product(*[range(box[1] + 1) for box in works[1]])))


def begins(works):
    """All stands in which a run may begin."""
    modes = tuple(part[1][0] for part in works[2])
    return [
        stand for stand in all_stands(works)
        if stand[0] == modes and all(box[2] <= level <= box[3] for box, level in zip(works[1], stand[1]))
    ]


def runs(works, story, lot=()):
    """All runs of a story, the signs asked of whole runs alone; None where they are too many to try."""
    deeds, signs = story
    found = [[stand] for stand in begins(works)]
    for deed in deeds:
        found = [[*run, stand] for run in found for stand in behind(works, run[-1], deed, lot)]
        if len(found) > 3000:
            return None
    return [run for run in found if all(fits(works, run[sign[0]], sign) for sign in signs)]


def allowed(works, story, lot=()):
    """The stands that runs have, beat by beat."""
    found = runs(works, story, lot)
    if found is None:
        return None
    return [sorted({run[beat] for run in found}) for beat in range(len(story[0]) + 1)]


def opened(works, story, lot=()):
    """The last stands of the runs of the story until each beat."""
    found = []
    for beat in range(len(story[0]) + 1):
        cut = (story[0][:beat], [sign for sign in story[1] if sign[0] <= beat])
        stands = allowed(works, cut, lot)
        if stands is None:
            return None
        found.append(stands[-1])
    return found


def lived_run(rng, works, deeds, lot):
    """A list of stands, one for each beat, as the works may go through them by these deeds."""
    run = [rng.choice(begins(works))]
    for deed in deeds:
        run.append(rng.choice(behind(works, run[-1], deed, lot)))
    return run


def lived_story(rng, works, lot, most=4):
    """A story of at most three deeds, with at most so many signs that one of its runs gives."""
    deeds = [any_deed(rng, works) for _ in range(rng.choice((0, 2, 3, 3)))]
    run = lived_run(rng, works, deeds, lot)
    signs = []
    for _ in range(rng.randint(1, most) if works[5] else 0):
        beat, sensor = rng.randrange(len(run)), rng.choice(works[5])
        told = range(41) if sensor[1] == "sum" else [mode for part in works[2] for mode in part[1]]
        fitting = [reading for reading in told if fits(works, run[beat], (beat, sensor[0], reading))]
        signs.append((beat, sensor[0], rng.choice(fitting)))
    return (deeds, signs)


def holds(works, claim, stand):
    """Whether a claim holds in a stand."""
    word = claim[0]
    if word == "sum":
        return sum(level for box, level in zip(works[1], stand[1]) if box[0] in claim[1]) in range(claim[2], claim[3] + 1)
    if word == "mode":
        return dict(zip([part[0] for part in works[2]], stand[0]))[claim[1]] in claim[2]
    if word == "not":
        return not holds(works, claim[1], stand)
    found = [holds(works, one, stand) for one in claim[1]]
    return False not in found if word == "all" else True in found


def claim_text(claim):
    """The text of a claim."""
    word = claim[0]
    if word == "sum":
        return "sum " + ",".join(claim[1]) + " " + str(claim[2]) + " " + str(claim[3])
    if word == "mode":
        return "mode " + claim[1] + " " + ",".join(claim[2])
    within = [claim[1]] if word == "not" else claim[1]
    return "(" + word + "".join(" " + claim_text(one) for one in within) + ")"


def runs_where(works, story, lot, where):
    """All runs that have, at the beats of where, stands in which its claims hold; None where they are too many."""
    found = runs(works, story, lot)
    if found is None:
        return None
    return [run for run in found if all(holds(works, claim, run[beat]) for beat, claim in where)]


def stays(works, story, where, beat, stand):
    """Whether a stand fits the signs of that beat, and the claims of that beat hold in it."""
    if not all(fits(works, stand, sign) for sign in story[1] if sign[0] == beat):
        return False
    return all(holds(works, claim, stand) for at, claim in where if at == beat)


def is_none_paper(works, story, paper, lot=(), where=()):
    """Whether a list of lists of stands is a paper that there's no run."""
    if not 1 <= len(paper) <= len(story[0]) + 1 or [row == [] for row in paper] != [False] * (len(paper) - 1) + [True]:
        return False
    if any(row != sorted(set(row)) for row in paper):
        return False
    if any(stays(works, story, where, 0, stand) and stand not in paper[0] for stand in begins(works)):
        return False
    for beat in range(1, len(paper)):
        for ahead in paper[beat - 1]:
            for stand in behind(works, ahead, story[0][beat - 1], lot):
                if stays(works, story, where, beat, stand) and stand not in paper[beat]:
                    return False
    return True


def lump_stands(lump):
    """The stands of a lump."""
    modes, ranges = lump
    return [(modes, levels) for levels in itertools.product(*[range(low, high + 1) for low, high in ranges])]


def is_one_lump(stands):
    """Whether these stands, of like modes, are those of one lump."""
    ranges = [(min(levels), max(levels)) for levels in zip(*[stand[1] for stand in stands])]
    return set(lump_stands((stands[0][0], tuple(ranges)))) == set(stands)


def are_lumps(stands, rows):
    """Whether these rising lumps have just these stands, each once, and no two make one."""
    found = [stand for lump in rows for stand in lump_stands(lump)]
    if rows != sorted(set(rows)) or sorted(found) != sorted(stands):
        return False
    pairs = [pair for pair in itertools.combinations(rows, 2) if pair[0][0] == pair[1][0]]
    return not any(is_one_lump(lump_stands(one) + lump_stands(other)) for one, other in pairs)


def sum_of(works, some, stand):
    """The sum of the levels of these boxes."""
    return sum(level for box, level in zip(works[1], stand[1]) if box[0] in some)


def subsets(names):
    """All tuples of some of these, those of fewer first, then as they rise."""
    return [some for many in range(len(names) + 1) for some in itertools.combinations(sorted(names), many)]


def sums(works, stands):
    """Of each tuple of boxes the least and the greatest sum."""
    found = []
    for some in subsets([box[0] for box in works[1]])[1:]:
        held = [sum_of(works, some, stand) for stand in stands]
        found.append((some, min(held), max(held)))
    return sorted(found)


def spanned(works, stands):
    """All stands whose sums are within those of the stands of like modes."""
    found = []
    for stand in all_stands(works):
        alike = [one for one in stands if one[0] == stand[0]]
        if alike and all(low <= sum_of(works, some, stand) <= high for some, low, high in sums(works, alike)):
            found.append(stand)
    return sorted(found)


def explaining(works, story):
    """All lots that explain a story; None where its runs are too many to try."""
    found = []
    for lot in subsets([part[0] for part in works[2]]):
        every = runs(works, story, lot)
        if every is None:
            return None
        if every:
            found.append(lot)
    return found


def least(tuples):
    """Those of these tuples within which no other one is, in their order."""
    return [one for one in tuples if not any(set(other) < set(one) for other in tuples)]


def is_run(works, story, run, lot=()):
    """Whether a list of stands is a run."""
    deeds, signs = story
    if len(run) != len(deeds) + 1 or run[0] not in begins(works):
        return False
    if any(run[at + 1] not in behind(works, run[at], deed, lot) for at, deed in enumerate(deeds)):
        return False
    return all(fits(works, run[sign[0]], sign) for sign in signs)


def hitting(parts, tuples):
    """The least tuples of these parts that have a part of each of those."""
    return least([some for some in subsets(parts) if all(set(some) & set(one) for one in tuples)])


def level_of(works, box, stand):
    """The level of a box."""
    return dict(zip([one[0] for one in works[1]], stand[1]))[box]


def is_span(works, story, lot, rows, beat, box, row):
    """Whether a row of an account tells the bounds of a box at a beat, of which all that is allowed are these rows."""
    held = [level_of(works, box[0], stand) for stand in rows[beat]]
    told_beat, name, low, first, under, high, last, over = row
    if (told_beat, name, low, high) != (beat, box[0], min(held), max(held)):
        return False
    for level, run, paper, end, claim in (
        (low, first, under, 0, ("sum", (name,), 0, low - 1)),
        (high, last, over, box[1], ("sum", (name,), high + 1, 40)),
    ):
        if not is_run(works, story, run, lot) or level_of(works, name, run[beat]) != level:
            return False
        if (paper is None) != (level == end):
            return False
        if paper is not None and not is_none_paper(works, story, paper, lot, [(beat, claim)]):
            return False
    return True


def is_account(works, story, thing):
    """Whether a tuple of three lists of tuples is an account, by all lots that explain the story."""
    well, ill, spans = thing
    parts = [part[0] for part in works[2]]
    every = explaining(works, story)
    if [row[0] for row in well] != least(every) or [row[0] for row in ill] != hitting(parts, every):
        return False
    if not all(is_run(works, story, run, lot) for lot, run in well):
        return False
    others = [tuple(part for part in parts if part not in core) for core, _ in ill]
    if not all(is_none_paper(works, story, row[1], lot) for row, lot in zip(ill, others)):
        return False
    if not every:
        return spans == []
    rows = allowed(works, story, well[0][0])
    places = [(beat, box) for beat in range(len(rows)) for box in works[1]]
    if len(places) != len(spans):
        return False
    return all(is_span(works, story, well[0][0], rows, beat, box, row) for (beat, box), row in zip(places, spans))


def expected(works, stand, deed):
    """What is expected behind a beat."""
    sets = dict(pair for known, pairs in works[4] if known == deed for pair in pairs)
    modes = tuple(sets.get(part[0], mode) for part, mode in zip(works[2], stand[0]))
    return (modes, flow(works, modes, stand[1], [(pipe[4] + pipe[5]) // 2 for pipe in works[3]]))


def far(one, other):
    """How far two stands are from each other."""
    modes = sum(10 for mode, wanted in zip(one[0], other[0]) if mode != wanted)
    return modes + sum(max(level, wanted) - min(level, wanted) for level, wanted in zip(one[1], other[1]))


def model(works, story, rows):
    """The model of a story, and the beats at which it is corrected, by what is allowed at each beat."""
    found, turned = [min(rows[0])], []
    for beat, deed in enumerate(story[0], 1):
        wanted = expected(works, found[-1], deed)
        found.append(sorted((far(stand, wanted), stand) for stand in rows[beat])[0][1])
        if found[-1] != wanted:
            turned.append(beat)
    return found, turned


def leads(works, stands, deeds, goal, keep, lot):
    """Whether a list of deeds leads from these stands."""
    if keep is not None and not all(holds(works, keep, stand) for stand in stands):
        return False
    for deed in deeds:
        stands = sorted({after for stand in stands for after in behind(works, stand, deed, lot)})
        if keep is not None and not all(holds(works, keep, stand) for stand in stands):
            return False
    return all(holds(works, goal, stand) for stand in stands)


def first_list(works, stands, goal, keep, beats, lot):
    """The first list of deeds that leads from these stands."""
    names = sorted(["wait", *[deed[0] for deed in works[4]]])
    for many in range(beats + 1):
        for deeds in itertools.product(names, repeat=many):
            if leads(works, stands, deeds, goal, keep, lot):
                return list(deeds)
    return None


def all_readings(works, sensor):
    """All readings that a sensor may have."""
    return range(41) if sensor[1] == "sum" else [part[1] for part in works[2] if part[0] == sensor[2]][0]


def needed(works, stands, goal, keep, beats, lot):
    """The first sensor that helps, with a list for each of its readings."""
    if first_list(works, stands, goal, keep, beats, lot) is not None:
        return None
    for sensor in works[5]:
        rows = []
        for reading in sorted(all_readings(works, sensor)):
            fit = [stand for stand in stands if fits(works, stand, (0, sensor[0], reading))]
            if fit:
                rows.append((reading, first_list(works, fit, goal, keep, beats, lot)))
        if all(deeds is not None for _, deeds in rows):
            return (sensor[0], rows)
    return None
