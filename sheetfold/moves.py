"""Moves and poses (points 5 and 6)."""

from sheetfold.turns import added, cross, joined_turns, negated, turn_back, turned


def moved(move, spot):
    return added(turned(move[0], spot), move[1])


def joined_moves(first, second):
    # The second move leads the first one's shift along with all else.
    return (joined_turns(first[0], second[0]), moved(second, first[1]))


def move_back(move):
    back = turn_back(move[0])
    # The shift was added behind the turn, so taken away it must be turned back as well.
    return (back, turned(back, negated(move[1])))


def out_of(pose):
    return cross(pose[1], pose[2])


def pose_moved(move, pose):
    return (moved(move, pose[0]), turned(move[0], pose[1]), turned(move[0], pose[2]))


def move_to(pose):
    """The move that leads the pose ((0, 0, 0), (1, 0, 0), (0, 1, 0)) to this one."""
    return ((pose[1], pose[2], out_of(pose)), pose[0])


def move_between(pose, other):
    return joined_moves(move_back(move_to(pose)), move_to(other))
