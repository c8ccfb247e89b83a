"""Spots, units and the twenty-four turns (points 4 and 5)."""

UNITS = ((-1, 0, 0), (0, -1, 0), (0, 0, -1), (0, 0, 1), (0, 1, 0), (1, 0, 0))


def is_whole(thing):
    # Python counts a truth among the ints; the document doesn't.
    return isinstance(thing, int) and not isinstance(thing, bool)


def is_unit(thing):
    if not isinstance(thing, tuple):
        return False
    # The kinds are looked at first: (True, 0, 0) and (1, 0, 0) are equal to Python.
    return all([is_whole(number) for number in thing]) and thing in UNITS


def added(one, other):
    return (one[0] + other[0], one[1] + other[1], one[2] + other[2])


def negated(spot):
    return (-spot[0], -spot[1], -spot[2])


def cross(one, other):
    return (
        one[1] * other[2] - one[2] * other[1],
        one[2] * other[0] - one[0] * other[2],
        one[0] * other[1] - one[1] * other[0],
    )


def is_turn(thing):
    if not isinstance(thing, tuple) or len(thing) != 3:
        return False
    if not all([is_unit(part) for part in thing]):
        return False
    # Units along one axis have the cross (0, 0, 0), which no third unit equals.
    return thing[2] == cross(thing[0], thing[1])


def all_turns():
    turns = []
    for right in UNITS:
        for up in UNITS:
            turn = (right, up, cross(right, up))
            if is_turn(turn):
                turns.append(turn)
    return sorted(turns)


def turned(turn, spot):
    return tuple([spot[0] * turn[0][k] + spot[1] * turn[1][k] + spot[2] * turn[2][k] for k in range(3)])


def joined_turns(first, second):
    return (turned(second, first[0]), turned(second, first[1]), turned(second, first[2]))


def turn_back(turn):
    # The units stand upright on one another, so the table of their numbers, laid over, undoes the turn.
    return tuple([(turn[0][k], turn[1][k], turn[2][k]) for k in range(3)])
