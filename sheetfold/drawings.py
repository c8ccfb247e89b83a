"""Sheets drawn, and drawings read (points 10 and 11)."""

from sheetfold.errors import NoDrawing
from sheetfold.sheets import sheet_of

MOST = 61
CELL = "#"
NOTHING = "."
# Bent down, flat, bent up: a join's sign stands one place beyond its bend.
JOINS = "v+^"


def drawn(sheet):
    cells = sheet[0]
    signs = {}
    for cell in cells:
        signs[place_of(cells, cell)] = CELL
    for i, j, bend in sheet[1]:
        signs[between(place_of(cells, cells[i]), place_of(cells, cells[j]))] = JOINS[bend + 1]
    height = 1 + max([place[0] for place in signs])
    width = 1 + max([place[1] for place in signs])
    return [row_text(signs, row, width) for row in range(height)]


def row_text(signs, row, width):
    return "".join([signs.get((row, column), NOTHING) for column in range(width)])


def place_of(cells, cell):
    """Where a cell is drawn: how many texts are above it and how many signs at its left."""
    highest = max([other[1] for other in cells])
    leftmost = min([other[0] for other in cells])
    return (2 * (highest - cell[1]), 2 * (cell[0] - leftmost))


def between(one, other):
    return ((one[0] + other[0]) // 2, (one[1] + other[1]) // 2)


def seen(rows):
    refuse_wrong_sizes(rows)
    cells = []
    joins = []
    for row in range(len(rows)):
        for column in range(len(rows[0])):
            sign = rows[row][column]
            if sign == NOTHING:
                continue
            ends = ends_at(row, column)
            if sign not in signs_for(ends) or not all([sign_at(rows, end) == CELL for end in ends]):
                raise NoDrawing("a sign stands where it may not stand")
            if sign == CELL:
                cells.append(cell_at(rows, ends[0]))
            else:
                joins.append((cell_at(rows, ends[0]), cell_at(rows, ends[1]), JOINS.index(sign) - 1))
    return sheet_of(cells, joins)


def refuse_wrong_sizes(rows):
    if not is_fit(len(rows)):
        raise NoDrawing("a drawing has an odd number of texts, 61 at most")
    if not is_fit(len(rows[0])) or any([len(row) != len(rows[0]) for row in rows]):
        raise NoDrawing("the texts of a drawing are alike long, of an odd number of signs, 61 at most")


def is_fit(length):
    return length % 2 == 1 and length <= MOST


def ends_at(row, column):
    """The places for cells on which a sign there bears: of a cell its own, of a join two; none between four cells."""
    if row % 2 == 0 and column % 2 == 0:
        return [(row, column)]
    if row % 2 == 0:
        return [(row, column - 1), (row, column + 1)]
    if column % 2 == 0:
        return [(row - 1, column), (row + 1, column)]
    return []


def signs_for(ends):
    return ("", CELL, JOINS)[len(ends)]


def sign_at(rows, place):
    return rows[place[0]][place[1]]


def cell_at(rows, place):
    return (place[1] // 2, (len(rows) - 1 - place[0]) // 2)


def sheet_text(sheet):
    return "/".join(drawn(sheet))


def sheet_read(text):
    return seen(text.split("/"))
