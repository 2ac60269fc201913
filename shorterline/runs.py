"""Runs walked from the first stand: the stands, the counts, and how long each asker stayed."""

from shorterline.moves import first_stand, line_of, moved_on, next_shift


def counts_behind(counts, word):
    """The counts (came, taken, away, served) behind a move of this word."""
    came, taken, away, served = counts
    if word == "taken":
        return (came + 1, taken + 1, away, served)
    if word == "away":
        return (came + 1, taken, away + 1, served)
    if word == "served":
        return (came, taken, away, served + 1)
    return counts


def askers_settled(hall, askers):
    """The askers of each line where all are moved that are to be."""
    askers = list(askers)
    shift = next_shift(hall, [len(line) for line in askers])
    while shift is not None:
        longest, void = shift
        askers[void] = askers[longest][-1:]
        askers[longest] = askers[longest][:-1]
        shift = next_shift(hall, [len(line) for line in askers])
    return tuple(askers)


def askers_behind(hall, askers, line, word, number):
    """The askers of each line behind a move of this word at a line, number that of one who comes."""
    askers = list(askers)
    if word == "taken":
        askers[line] = askers[line] + (number,)
    elif word == "served":
        askers[line] = askers[line][1:]
    return askers_settled(hall, askers)


def first_scene(hall):
    """A scene is a triple (stand, counts, askers in each line); this is the one ahead of all moves."""
    return (first_stand(hall), (0, 0, 0, 0), ((),) * len(hall[1]))


def scene_behind(hall, rule, scene, move):
    """The pair (scene, word) that a move makes of a scene."""
    stand, counts, askers = scene
    line = line_of(hall, rule, stand, move)
    behind, word = moved_on(hall, rule, stand, move)
    # Who comes next bears the number of those who came ahead.
    askers = askers_behind(hall, askers, line, word, counts[0])
    return ((behind, counts_behind(counts, word), askers), word)


def walked(hall, rule, run):
    """All stands of a run, the first one and that behind each move."""
    stands = [first_stand(hall)]
    for move in run:
        stands.append(moved_on(hall, rule, stands[-1], move)[0])
    return tuple(stands)


def counted(hall, rule, run):
    """The counts (came, taken, away, served) of a run."""
    stand = first_stand(hall)
    counts = (0, 0, 0, 0)
    for move in run:
        stand, word = moved_on(hall, rule, stand, move)
        counts = counts_behind(counts, word)
    return counts


def stays(hall, rule, run):
    """For each asker of a run None where it was turned away, else the pair (turns, gone)."""
    scene = first_scene(hall)
    found = []
    for at, move in enumerate(run):
        # Each one who is taken counts as staying to the end until it is served.
        left = len(run) - at
        ahead = scene[2]
        scene, word = scene_behind(hall, rule, scene, move)
        if word == "taken":
            found.append((left, False))
        elif word == "away":
            found.append(None)
        elif word == "served":
            number = ahead[move[1]][0]
            found[number] = (found[number][0] - left, True)
    return tuple(found)
