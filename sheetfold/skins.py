"""Skins of solids: crowded edges, joins, poses (points 22 and 23)."""

from sheetfold.errors import Crowded
from sheetfold.hanging import numbers_of
from sheetfold.solids import outward_from
from sheetfold.squares import axis_of, edge_counts, skin_of, squares_at
from sheetfold.turns import UNITS, added, cross, negated

CROWD = 4


def crowded(solid):
    counts = edge_counts(skin_of(solid))
    return min([edge for edge in counts if counts[edge] == CROWD], default=None)


def skin_joins(solid):
    crowd = crowded(solid)
    if crowd is not None:
        raise Crowded(crowd)
    squares = skin_of(solid)
    numbers = numbers_of(squares)
    joins = []
    for edge in edge_counts(squares):
        # Squares and their numbers rise alike, so the first of the two has the lesser number.
        pair = [square for square in squares_at(edge) if square in numbers]
        joins.append((numbers[pair[0]], numbers[pair[1]], bend_over(solid, pair[0], edge, pair[1])))
    return sorted(joins)


def bend_over(solid, square, edge, other):
    """The bend of the join of two squares that have the edge."""
    beyond = added(other, negated(edge))
    if beyond == added(edge, negated(square)):
        return 0
    return 1 if beyond == outward_from(solid, square) else -1


def pose_on(solid, i):
    square = skin_of(solid)[i]
    out = outward_from(solid, square)
    axis = axis_of(square)
    right = max([unit for unit in UNITS if unit[axis] == 0])
    return (square, right, cross(out, right))
