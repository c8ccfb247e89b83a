"""Spots and the like that several test files try, and what they ask of every answer."""

import itertools

BIG = 10 ** 30
UNITS = [(1, 0, 0), (-1, 0, 0), (0, 1, 0), (0, -1, 0), (0, 0, 1), (0, 0, -1)]
SPOTS = UNITS + [
    (0, 0, 0),
    (1, 2, 3),
    (-7, 0, 5),
    (4, -4, 4),
    (BIG, -BIG, BIG),
    (-BIG, BIG - 1, 1),
    (0, BIG, 0),
    (123456789012345678901234567890, -987654321098765432109876543210, 555),
]
PLAIN_TURN = ((1, 0, 0), (0, 1, 0), (0, 0, 1))
PLAIN_MOVE = (PLAIN_TURN, (0, 0, 0))


def measure(p, q, r):
    """The determinant of three spots: 1 of three units just where they make a turn."""
    return (
        p[0] * (q[1] * r[2] - q[2] * r[1])
        - p[1] * (q[0] * r[2] - q[2] * r[0])
        + p[2] * (q[0] * r[1] - q[1] * r[0])
    )


def turns_by_measure():
    return sorted(t for t in itertools.product(UNITS, repeat=3) if measure(*t) == 1)


TURNS = turns_by_measure()


def frames():
    """All pairs of units not along the same axis."""
    return [(p, q) for p in UNITS for q in UNITS if all(a * b == 0 for a, b in zip(p, q))]


def is_spot(thing):
    return type(thing) is tuple and len(thing) == 3 and all(type(n) is int for n in thing)


def is_turn_by_kind(thing):
    return type(thing) is tuple and all(is_spot(part) for part in thing) and thing in TURNS


def is_move(thing):
    return type(thing) is tuple and len(thing) == 2 and is_turn_by_kind(thing[0]) and is_spot(thing[1])


def is_pose(thing):
    if type(thing) is not tuple or len(thing) != 3 or not all(is_spot(part) for part in thing):
        return False
    return (thing[1], thing[2]) in frames()
