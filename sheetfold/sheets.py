"""Sheets: cells and the joins between them (points 7 to 9)."""

from sheetfold.errors import NoSheet
from sheetfold.hanging import least_apart, least_twice, numbers_of
from sheetfold.joins import is_bend

MOST_CELLS = 26
# From a cell to its neighbour place, in the order of the ways.
STEPS = ((1, 0), (0, 1), (-1, 0), (0, -1))


def step_between(cell, other):
    return (other[0] - cell[0], other[1] - cell[1])


def sheet_of(cells, joins):
    count = len(cells)
    if not 1 <= count <= MOST_CELLS:
        raise NoSheet(("count", count))
    twice = least_twice(cells)
    if twice is not None:
        raise NoSheet(("twice", twice))
    sheet = sheet_from(cells, joins)
    apart = least_apart(count, sheet[1])
    if apart is not None:
        raise NoSheet(("apart", apart))
    return sheet


def sheet_from(cells, joins):
    """Cells and joins put in order as a sheet has them; the first join that is none is refused."""
    ordered = sorted(cells)
    return (ordered, numbered_joins(ordered, joins))


def numbered_joins(cells, joins):
    """The joins with numbers in the place of cells, rising."""
    numbers = numbers_of(cells)
    bends = {}
    for k, join in enumerate(joins):
        pair = (min(join[0], join[1]), max(join[0], join[1]))
        if not are_neighbours(numbers, pair) or not is_bend(join[2]) or pair in bends:
            raise NoSheet(("join", k))
        bends[pair] = join[2]
    return sorted([(numbers[pair[0]], numbers[pair[1]], bend) for pair, bend in bends.items()])


def are_neighbours(numbers, pair):
    # Of two neighbours the lesser one has the other at its right or above it.
    return pair[0] in numbers and pair[1] in numbers and step_between(pair[0], pair[1]) in STEPS[:2]


def neighbours(sheet, k):
    cells = sheet[0]
    found = []
    for i, j, bend in sheet[1]:
        if k in (i, j):
            other = j if k == i else i
            found.append((STEPS.index(step_between(cells[k], cells[other])), other, bend))
    return sorted(found)


def bends_of(sheet):
    return [join[2] for join in sheet[1]]


def with_bends(sheet, bends):
    return (list(sheet[0]), [(join[0], join[1], bend) for join, bend in zip(sheet[1], bends)])


def shifted(sheet, shift):
    return ([(cell[0] + shift[0], cell[1] + shift[1]) for cell in sheet[0]], list(sheet[1]))
