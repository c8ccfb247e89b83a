"""Steps and ways over a skin (point 33)."""

from sheetfold.errors import NoSquare
from sheetfold.hanging import links_of, path_back, reached_from
from sheetfold.skins import skin_joins
from sheetfold.squares import skin_of
from sheetfold.turns import is_whole


def steps_from(solid, i):
    return steps_along(origins_from(solid, i))


def way_over(solid, i, j):
    origins = origins_from(solid, i)
    refuse_no_number(j, len(origins))
    return (list(reversed(path_back(origins, j))), steps_along(origins))


def origins_from(solid, i):
    """A dict of all squares of the skin, each with the one from which it is reached first on the way from i."""
    joins = skin_joins(solid)
    count = len(skin_of(solid))
    refuse_no_number(i, count)
    return reached_from(i, links_of(count, joins))


def refuse_no_number(thing, count):
    if not is_whole(thing) or not 0 <= thing < count:
        # The thing itself is not told: Python won't write out each whole number.
        raise NoSquare("the thing is no number of a square of the skin")


def steps_along(origins):
    """How many steps each square is from the start, in the order of their numbers."""
    steps = {}
    for k, origin in origins.items():
        steps[k] = 0 if origin is None else steps[origin] + 1
    return [steps[k] for k in range(len(steps))]
