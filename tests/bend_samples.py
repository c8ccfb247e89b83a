"""Sheets with free joins that several test files try, and a plain reckoning of their bendings and papers."""

import itertools

from sheet_samples import (
    BENDS, MANY, SMALL, START, Draws, plain_bend, plain_folded, plain_is_ring, plain_sheet, plain_walked, plain_way,
    quick_led,
)
from solid_samples import between, middle, odd_edges, plain_joins, random_tree
from sheetfold.drawings import seen, sheet_read
from sheetfold.slits import laid

CROSS = sheet_read("..#..../..^..../#^#^#^#/..^..../..#....")
STAIR = sheet_read("#v#....../..v....../..#v#..../....v..../....#v#..")
# It closes in two ways, and the one that is found first is not the lesser one.
TWO_WAYS = seen([
    "..#........", "..v........", "#v#v#v#....", "......+....", "....#v#v#v#", "....+.+....", "....#.#....", "....v......",
    "....#......", "....v......", "..#v#......",
])
BOX = [(0, 0, 0), (0, 0, 1), (0, 1, 0), (0, 1, 1)]


def plain_closing(squares):
    edges = odd_edges(squares)
    if edges:
        return ("open", edges[0])
    cubes = {cube for square in squares for cube in between(square)}
    grown = cubes | {tuple(n + step * (k == axis) for k, n in enumerate(cube))
                     for cube in cubes for axis in range(3) for step in range(-6, 7)}
    return ("closed", sorted(cube for cube in grown if is_within(squares, middle(cube))))


def is_within(squares, spot):
    """Whether a straight way upwards from the spot goes through an odd number of the squares."""
    return sum(square[:2] == spot[:2] and square[2] > spot[2] for square in squares) % 2 == 1


def is_tied(sheet, i, j):
    return plain_bend(sheet, i, j) is not None


def plain_step(sheet, chosen):
    """Point 28 from the beginning, as far as the chosen bends lead: the next free join, or the end (no list told)."""
    ties = {(i, j) for a, b, bend in sheet[1] for i, j in [(a, b), (b, a)]}
    poses = {0: START}
    while len(poses) < len(sheet[0]):
        k = min(j for i, j in ties if i in poses and j not in poses)
        pose = None
        for i in sorted(i for i in poses if (i, k) in ties):
            pair = (min(i, k), max(i, k))
            if pair not in chosen:
                return ("bend", *pair)
            there = quick_led(chosen[pair], poses[i], plain_way(sheet, i, k))
            if pose is None:
                pose = there
                if pose[0] in [other[0] for other in poses.values()]:
                    return ("clash",)
            elif pose != there:
                return ("ring",)
        poses[k] = pose
    return plain_closing([pose[0] for pose in poses.values()])


def fixed_bends(sheet, free):
    return {join[:2]: join[2] for k, join in enumerate(sheet[1]) if k not in free}


def part_of(sheet, chosen):
    """The sheet with the chosen joins alone."""
    return (sheet[0], [(*pair, bend) for pair, bend in sorted(chosen.items())])


def plain_is_clash(part, numbers):
    if len(numbers) < 2 or numbers[0] == numbers[-1]:
        return False
    if not all(is_tied(part, i, j) for i, j in zip(numbers, numbers[1:])):
        return False
    return plain_walked(part, numbers, START)[0] == START[0]


def all_bendings(sheet, free):
    """Every list of bends that keeps those that aren't free."""
    bends = [join[2] for join in sheet[1]]
    for choice in itertools.product(BENDS, repeat=len(free)):
        anew = list(bends)
        for place, bend in zip(free, choice):
            anew[place] = bend
        yield anew


def bent(sheet, bends):
    return (sheet[0], [(i, j, bend) for (i, j, old), bend in zip(sheet[1], bends)])


def plain_closings(sheet, free):
    found = []
    for bends in all_bendings(sheet, free):
        told = plain_folded(bent(sheet, bends))
        if told[0] == "folded" and not odd_edges([pose[0] for pose in told[1]]):
            found.append(bends)
    return sorted(found)


def plain_holds(sheet, free, paper, chosen=None):
    """Point 30, tuple by tuple."""
    chosen = fixed_bends(sheet, free) if chosen is None else chosen
    left = [sheet[1][k][:2] for k in free if sheet[1][k][:2] not in chosen]
    if paper[0] == "bend":
        if paper[1:3] not in left:
            return False
        parts = zip(BENDS, paper[3:])
        return all(plain_holds(sheet, free, part, {**chosen, paper[1:3]: bend}) for bend, part in parts)
    part = part_of(sheet, chosen)
    if paper[0] in ("ring", "clash"):
        holds = plain_is_ring if paper[0] == "ring" else plain_is_clash
        return type(paper[1]) is list and all(type(k) is int for k in paper[1]) and holds(part, paper[1])
    told = plain_folded(part) if not left else ("left",)
    return told[0] == "folded" and plain_closing([pose[0] for pose in told[1]]) == paper


def laid_sheets(draws):
    """Sheets that close a solid: bare trees, and some with each further join that fits."""
    sheets = []
    for solid in [[(0, 0, 0)], [(0, 0, 0), (0, 0, 1)], [(0, 0, 0), (0, 1, 0), (1, 0, 0)], BOX]:
        for _ in range(8):
            told = laid(solid, random_tree(draws, solid))
            if told[0] == "flat":
                sheets.append(told[1])
                sheets.append(tied_again(told[1], told[2], solid))
    return sheets


def tied_again(sheet, numbers, solid):
    """The sheet with a join of the skin wherever it leads from the one cell's pose to the neighbour cell's pose."""
    cells = sheet[0]
    poses = plain_folded(sheet)[1]
    joins = [(cells[i], cells[j], bend) for i, j, bend in sheet[1]]
    bends = {join[:2]: join[2] for join in plain_joins(solid)}
    for i, j in itertools.combinations(range(len(cells)), 2):
        pair = tuple(sorted((numbers[i], numbers[j])))
        if abs(cells[i][0] - cells[j][0]) + abs(cells[i][1] - cells[j][1]) == 1 and pair in bends:
            if not is_tied(sheet, i, j) and quick_led(bends[pair], poses[i], plain_way(sheet, i, j)) == poses[j]:
                joins.append((cells[i], cells[j], bends[pair]))
    return plain_sheet(cells, joins)


def some_places(draws, sheet, count):
    return sorted(draws.shuffled(range(len(sheet[1])))[:count])


def bend_cases():
    """Sheets with lists of free places: none to six of them."""
    draws = Draws(61)
    cases = [(CROSS, [0, 1, 2, 3, 4]), (STAIR, [0, 1, 2, 3, 4]), (TWO_WAYS, [2, 3, 6, 7, 8, 9])]
    cases += [(sheet, list(range(len(sheet[1])))) for sheet in SMALL[::16]]
    cases += [(sheet, some_places(draws, sheet, draws.below(4))) for sheet in SMALL[::25] + MANY[::4]]
    cases += [(sheet, some_places(draws, sheet, 4)) for sheet in MANY[1::16]]
    cases += [(sheet, some_places(draws, sheet, count)) for sheet in LAID for count in (0, 2, 4)]
    cases += [(sheet, some_places(draws, sheet, count)) for sheet in LAID[::16] + MANY[10::90] for count in (5, 6)]
    return cases


LAID = laid_sheets(Draws(60))
CASES = bend_cases()
