"""Solids: cubes that hang together (points 20 and 21)."""

from sheetfold.errors import NoSolid, NoSquare
from sheetfold.hanging import least_apart, least_twice
from sheetfold.squares import cubes_at, middle_of, skin_of
from sheetfold.turns import UNITS, added, negated

MOST_CUBES = 6


def solid_of(cubes):
    count = len(cubes)
    if not 1 <= count <= MOST_CUBES:
        raise NoSolid(("count", count))
    twice = least_twice(cubes)
    if twice is not None:
        raise NoSolid(("twice", twice))
    ordered = sorted(cubes)
    apart = least_apart(count, side_pairs(ordered))
    if apart is not None:
        raise NoSolid(("apart", ordered[apart]))
    return ordered


def side_pairs(cubes):
    """The pairs of numbers of cubes that share a side."""
    pairs = []
    for j in range(len(cubes)):
        for i in range(j):
            if added(cubes[j], negated(cubes[i])) in UNITS:
                pairs.append((i, j))
    return pairs


def outward(solid, square):
    if square not in skin_of(solid):
        raise NoSquare("the square is no part of the solid's skin")
    return outward_from(solid, square)


def outward_from(solid, square):
    """As outward, where the square is known to be one of the skin."""
    pair = cubes_at(square)
    within = pair[0] if pair[0] in solid else pair[1]
    return added(square, negated(middle_of(within)))
