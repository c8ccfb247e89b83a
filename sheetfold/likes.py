"""Solids and sheets turned, their least tellings, and which are the same (points 26 and 27)."""

from sheetfold.errors import NoTurn
from sheetfold.sheets import sheet_from, shifted
from sheetfold.squares import cube_of, middle_of
from sheetfold.turns import added, all_turns, is_whole, turned

SHEET_TURNS = 8
# From this number on a sheet is turned over as well.
TURNED_OVER = 4


def lows_of(places):
    """The least numbers at each place of the cells or cubes."""
    return [min([place[k] for place in places]) for k in range(len(places[0]))]


def shift_between(places, others):
    """The shift that brings the least numbers of the first places to those of the others."""
    return tuple([other - low for low, other in zip(lows_of(places), lows_of(others))])


def solid_turned(solid, turn, shift=None):
    by = (0, 0, 0) if shift is None else shift
    return sorted([added(cube_of(turned(turn, middle_of(cube))), by) for cube in solid])


def solid_onto(solid, turn, cubes):
    """The solid turned, and so shifted that its least numbers are those of the cubes."""
    return solid_turned(solid, turn, shift_between(solid_turned(solid, turn), cubes))


def least_solid(solid):
    return min([solid_onto(solid, turn, [(0, 0, 0)]) for turn in all_turns()])


def same_solids(one, other):
    for turn in all_turns():
        if solid_onto(one, turn, other) == other:
            return ("same", turn, shift_between(solid_turned(one, turn), other))
    return ("unlike", least_solid(one), least_solid(other))


def sheet_turned(sheet, k, shift=None):
    if not is_whole(k) or not 0 <= k < SHEET_TURNS:
        # The thing itself is not told: Python won't write out each whole number.
        raise NoTurn("a sheet is turned by a number from 0 to 7")
    cells = [cell_turned(cell, k) for cell in sheet[0]]
    sign = -1 if k >= TURNED_OVER else 1
    anew = sheet_from(cells, [(cells[i], cells[j], sign * bend) for i, j, bend in sheet[1]])
    return shifted(anew, (0, 0) if shift is None else shift)


def cell_turned(cell, k):
    x = cell[0]
    y = cell[1]
    quarter = ((x, y), (-y, x), (-x, -y), (y, -x))[k % TURNED_OVER]
    return (-quarter[0], quarter[1]) if k >= TURNED_OVER else quarter


def sheet_onto(sheet, k, cells):
    """The sheet turned, and so shifted that its least numbers are those of the cells."""
    return sheet_turned(sheet, k, shift_between(sheet_turned(sheet, k)[0], cells))


def least_sheet(sheet):
    return min([sheet_onto(sheet, k, [(0, 0)]) for k in range(SHEET_TURNS)])


def same_sheets(one, other):
    for k in range(SHEET_TURNS):
        if sheet_onto(one, k, other[0]) == other:
            return ("same", k, shift_between(sheet_turned(one, k)[0], other[0]))
    return ("unlike", least_sheet(one), least_sheet(other))
