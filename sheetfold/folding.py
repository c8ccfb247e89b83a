"""Sheets folded in space (points 14 to 16)."""

from sheetfold.errors import NoWay
from sheetfold.hanging import first_meeting, links_of, path_between, reached_from
from sheetfold.joins import join_of
from sheetfold.sheets import neighbours

# The pose of the first cell, where none is told.
START = ((1, 1, 0), (1, 0, 0), (0, 1, 0))


def steps_of(sheet):
    """A dict that tells of each two joined cells, in either order, the way to the second and the join's bend."""
    steps = {}
    for k in range(len(sheet[0])):
        for way, j, bend in neighbours(sheet, k):
            steps[(k, j)] = (way, bend)
    return steps


def led_by(step, pose):
    return join_of(step[1]).led(pose, step[0])


def folded(sheet, first=0, pose=None):
    steps = steps_of(sheet)
    origins = reached_from(first, links_of(len(sheet[0]), sheet[1]))
    poses = poses_along(steps, origins, START if pose is None else pose)
    for join in sheet[1]:
        if led_by(steps[(join[0], join[1])], poses[join[0]]) != poses[join[1]]:
            # The join itself leads from the last cell of this path back to its first one.
            return ("ring", path_between(origins, join[0], join[1]))
    return clash_or_folded([poses[k] for k in range(len(sheet[0]))])


def poses_along(steps, origins, pose):
    """The pose of each cell by the one from which it was reached, the first having this pose."""
    poses = {}
    for k, origin in origins.items():
        poses[k] = pose if origin is None else led_by(steps[(origin, k)], poses[origin])
    return poses


def clash_or_folded(poses):
    meeting = first_meeting([pose[0] for pose in poses])
    if meeting is None:
        return ("folded", poses)
    return ("clash", meeting[0], meeting[1])


def walked(sheet, numbers, pose):
    steps = steps_of(sheet)
    for at, pair in enumerate(zip(numbers, numbers[1:])):
        if pair not in steps:
            raise NoWay(at)
        pose = led_by(steps[pair], pose)
    return pose


def is_ring(sheet, numbers):
    if not numbers:
        return False
    try:
        return walked(sheet, numbers + numbers[:1], START) != START
    except NoWay:
        return False
