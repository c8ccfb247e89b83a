"""All ways to bend the free joins of a sheet so that it closes (points 28 and 29)."""

from sheetfold.errors import NoBend, TooMany
from sheetfold.folding import START, led_by, steps_of
from sheetfold.hanging import links_of, numbers_of, path_between
from sheetfold.joins import BENDS
from sheetfold.sheets import bends_of
from sheetfold.squares import closing

MOST_FREE = 6


def bendings(sheet, free):
    refuse_wrong_places(free, len(sheet[1]))
    steps = steps_in_turn(sheet)
    bends = [None if k in free else bend for k, bend in enumerate(bends_of(sheet))]
    told = ways_on(steps, origins_by(steps), bends, {0: START})
    return (sorted(told[0]), told[1])


def refuse_wrong_places(free, count):
    if len(free) > MOST_FREE:
        raise TooMany("at most six joins are free")
    if free != sorted(set(free)) or any([not 0 <= place < count for place in free]):
        raise NoBend("the free joins are told by their places, rising, each once")


def steps_in_turn(sheet):
    """The joins in the order in which they are taken, as (i, k, way, place): by the way from the laid cell i to k."""
    leading = steps_of(sheet)
    places = numbers_of([(i, j) for i, j, bend in sheet[1]])
    steps = []
    for k, laid in cells_in_turn(sheet):
        for i in laid:
            steps.append((i, k, leading[(i, k)][0], places[(min(i, k), max(i, k))]))
    return steps


def cells_in_turn(sheet):
    """The cells behind cell 0 as they are laid, each with the list of laid ones with which it is joined, rising."""
    links = links_of(len(sheet[0]), sheet[1])
    laid = {0: True}
    ordered = []
    while len(laid) < len(links):
        k = min([j for j in range(len(links)) if j not in laid and any([i in laid for i in links[j]])])
        ordered.append((k, sorted([i for i in links[k] if i in laid])))
        laid[k] = True
    return ordered


def origins_by(steps):
    """A dict that tells of each cell from which one it gets its pose."""
    origins = {0: None}
    for i, k, way, place in steps:
        origins.setdefault(k, i)
    return origins


def ways_on(steps, origins, bends, poses):
    """The closings and the paper of all ways that go on by these steps; a bend that is not chosen yet is None."""
    laid = dict(poses)
    for at, step in enumerate(steps):
        bend = bends[step[3]]
        if bend is None:
            return ways_parted(steps[at:], origins, bends, laid)
        end = end_at(step, bend, origins, laid)
        if end is not None:
            return ([], end)
    end = closing([pose[0] for pose in laid.values()])
    return ([bends] if end[0] == "closed" else [], end)


def ways_parted(steps, origins, bends, poses):
    """As ways_on, where the first step is by a free join: by each of its bends."""
    step = steps[0]
    closings = []
    papers = []
    for bend in BENDS:
        chosen = list(bends)
        chosen[step[3]] = bend
        told = ways_on(steps, origins, chosen, poses)
        closings.extend(told[0])
        papers.append(told[1])
    pair = (min(step[0], step[1]), max(step[0], step[1]))
    return (closings, ("bend", pair[0], pair[1], papers[0], papers[1], papers[2]))


def end_at(step, bend, origins, poses):
    """The ring or clash to which a step comes, or None, and then the cell to which it leads has its pose."""
    k = step[1]
    pose = led_by((step[2], bend), poses[step[0]])
    if k in poses:
        return None if pose == poses[k] else ("ring", path_between(origins, step[0], k))
    for other in poses:
        if poses[other][0] == pose[0]:
            return ("clash", path_between(origins, other, k))
    poses[k] = pose
    return None
