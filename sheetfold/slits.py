"""Skins slit open along all edges but those of a tree, and laid flat (points 24 and 25)."""

from sheetfold.errors import NoTree
from sheetfold.folding import led_by
from sheetfold.hanging import first_meeting, first_ring, least_apart, links_of, numbers_of, reached_from
from sheetfold.sheets import STEPS, sheet_from
from sheetfold.skins import pose_on, skin_joins
from sheetfold.squares import skin_of


def tree_fault(solid, pairs):
    return fault_in(pairs, bends_between(solid), len(skin_of(solid)))


def bends_between(solid):
    """A dict that tells of each two joined squares of a skin, the lesser number first, the bend of their join."""
    return dict([((i, j), bend) for i, j, bend in skin_joins(solid)])


def fault_in(pairs, bends, count):
    for k, pair in enumerate(pairs):
        if pair not in bends:
            return ("pair", k)
    ring = first_ring(count, pairs)
    if ring is not None:
        return ("ring", ring)
    apart = least_apart(count, pairs)
    if apart is not None:
        return ("apart", apart)
    return None


def laid(solid, pairs):
    bends = bends_between(solid)
    squares = skin_of(solid)
    fault = fault_in(pairs, bends, len(squares))
    if fault is not None:
        raise NoTree(fault)
    cells = cells_by(squares, pose_on(solid, 0), pairs, bends)
    lap = first_meeting(cells)
    if lap is not None:
        return ("lap", lap[0], lap[1])
    numbers = numbers_of(cells)
    sheet = sheet_from(cells, [(cells[i], cells[j], bends[(i, j)]) for i, j in pairs])
    return ("flat", sheet, [numbers[cell] for cell in sheet[0]])


def cells_by(squares, pose, pairs, bends):
    """The cell to which each square comes by the pairs of a tree, square 0 having this pose."""
    cells = {}
    poses = {}
    for k, origin in reached_from(0, links_of(len(squares), pairs)).items():
        if origin is None:
            cells[k] = (0, 0)
            poses[k] = pose
        else:
            bend = bends[(min(origin, k), max(origin, k))]
            way = way_to(squares[k], poses[origin], bend)
            cells[k] = (cells[origin][0] + STEPS[way][0], cells[origin][1] + STEPS[way][1])
            poses[k] = led_by((way, bend), poses[origin])
    return [cells[k] for k in range(len(squares))]


def way_to(square, pose, bend):
    """The way by which a join of this bend leads to the square."""
    return [led_by((way, bend), pose)[0] for way in range(len(STEPS))].index(square)
