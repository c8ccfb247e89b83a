"""Sheets that several test files try, made without the program, and a plain reckoning of how they fold."""

import itertools

from samples import TURNS, frames

FAR = 10 ** 20
START = ((1, 1, 0), (1, 0, 0), (0, 1, 0))
POSES = [((1, 1, 0), right, up) for right, up in frames()]
BENDS = [-1, 0, 1]


class Draws:
    """Numbers that look drawn by lot, the same in every run."""

    def __init__(self, seed):
        self.state = seed

    def below(self, n):
        self.state = (self.state * 6364136223846793005 + 1442695040888963407) % 2 ** 64
        return (self.state >> 33) % n

    def one_of(self, things):
        return things[self.below(len(things))]

    def shuffled(self, things):
        left = list(things)
        return [left.pop(self.below(len(left))) for _ in things]


def around(cell):
    x, y = cell
    return [(x + 1, y), (x, y + 1), (x - 1, y), (x, y - 1)]


def neighbour_pairs(cells):
    """All pairs of cells, the lesser first, of which one lies at the right of the other or above it."""
    return [(c, d) for c in sorted(cells) for d in around(c)[:2] if d in cells]


def hang_together(cells, pairs):
    reached = {min(cells)}
    while True:
        more = {d for p in pairs for c, d in (p[:2], p[1::-1]) if c in reached} - reached
        if not more:
            return len(reached) == len(cells)
        reached |= more


def shapes(n):
    """All sets of n cells that hang together, with least x and y 0."""
    found = {((0, 0),)}
    for _ in range(n - 1):
        grown = set()
        for cells in found:
            for cell in {d for c in cells for d in around(c)} - set(cells):
                more = cells + (cell,)
                left, low = min(x for x, y in more), min(y for x, y in more)
                grown.add(tuple(sorted((x - left, y - low) for x, y in more)))
        found = grown
    return sorted(found)


def small_parts():
    """The cells and joins of every sheet of one to four cells."""
    parts = []
    for n in range(1, 5):
        for cells in shapes(n):
            pairs = neighbour_pairs(cells)
            for bends in itertools.product([None] + BENDS, repeat=len(pairs)):
                joins = [pair + (bend,) for pair, bend in zip(pairs, bends) if bend is not None]
                if hang_together(cells, joins):
                    parts.append((list(cells), joins))
    return parts


def grown_cells(draws, n, start):
    cells = [start]
    while len(cells) < n:
        cell = draws.one_of(around(draws.one_of(cells)))
        if cell not in cells:
            cells.append(cell)
    return cells


def tree_pairs(draws, cells):
    """Pairs by which all cells hang together, none of which could be left out."""
    chosen, reached = [], {cells[0]}
    while len(reached) < len(cells):
        edge = [p for p in neighbour_pairs(cells) if (p[0] in reached) != (p[1] in reached)]
        pair = draws.one_of(edge)
        chosen.append(pair)
        reached |= set(pair)
    return chosen


def great_parts(draws, n, start, kind):
    """Cells and joins in whatever order: bent anyhow ("wild"), bent along whole columns ("pleats"), or a tree."""
    cells = grown_cells(draws, n, start)
    pleats = {x: draws.one_of(BENDS) for x, y in cells}
    tree = tree_pairs(draws, cells)
    joins = []
    for c, d in neighbour_pairs(cells):
        if kind == "pleats":
            bend = pleats[c[0]] if c[1] == d[1] else 0
        else:
            bend = draws.one_of(BENDS)
        if (c, d) in tree or kind == "pleats" or (kind == "wild" and draws.below(2)):
            joins.append((c, d, bend) if draws.below(2) else (d, c, bend))
    return draws.shuffled(cells), draws.shuffled(joins)


def many_parts():
    draws = Draws(7)
    starts = [(0, 0), (-3, 5), (FAR - 25, -FAR + 25), (-FAR + 25, FAR - 25)]
    parts = []
    for n in range(1, 27):
        for kind in ["wild", "pleats", "tree"]:
            for start in starts:
                parts.append(great_parts(draws, n, start, kind))
    return parts


def plain_sheet(cells, joins):
    """The sheet of right cells and joins."""
    order = sorted(cells)
    joins = [(order.index(c), order.index(d), bend) for c, d, bend in joins]
    return order, sorted((min(i, j), max(i, j), bend) for i, j, bend in joins)


SMALL_PARTS = small_parts()
MANY_PARTS = many_parts()
SMALL = [plain_sheet(*parts) for parts in SMALL_PARTS]
MANY = [plain_sheet(*parts) for parts in MANY_PARTS]
SHEETS = SMALL + MANY


def plain_way(sheet, i, j):
    return around(sheet[0][i]).index(sheet[0][j])


def plain_bend(sheet, i, j):
    """The bend of the join of i and j, or None where they have none."""
    for a, b, bend in sheet[1]:
        if (a, b) in ((i, j), (j, i)):
            return bend
    return None


def plus(one, other):
    return tuple(a + b for a, b in zip(one, other))


def minus(spot):
    return tuple(-n for n in spot)


def plain_turned(turn, spot):
    return tuple(sum(spot[m] * turn[m][k] for m in range(3)) for k in range(3))


def plain_cross(one, other):
    (a, b, c), (d, e, f) = one, other
    return (b * f - c * e, c * d - a * f, a * e - b * d)


def plain_led(bend, pose, way):
    """Point 13 by trying all turns."""
    spot, right, up = pose
    w = [right, up, minus(right), minus(up)][way]
    out = plain_cross(right, up)
    v = {0: w, 1: out, -1: minus(out)}[bend]
    edge = plain_cross(w, out)
    fit = [t for t in TURNS if plain_turned(t, w) == v and plain_turned(t, edge) == edge]
    assert len(fit) == 1
    return plus(plus(spot, w), v), plain_turned(fit[0], right), plain_turned(fit[0], up)


LED = {(bend, pose, way): plain_led(bend, pose, way) for bend in BENDS for pose in POSES for way in range(4)}


def quick_led(bend, pose, way):
    """As plain_led, from a table: how it leads doesn't hang on where the pose is."""
    spot, right, up = LED[bend, (START[0], *pose[1:]), way]
    return plus(plus(pose[0], minus(START[0])), spot), right, up


def plain_walked(sheet, numbers, pose):
    for i, j in zip(numbers, numbers[1:]):
        pose = quick_led(plain_bend(sheet, i, j), pose, plain_way(sheet, i, j))
    return pose


def plain_is_ring(sheet, numbers):
    n = len(sheet[0])
    if not numbers or not all(0 <= k < n for k in numbers):
        return False
    round_trip = list(numbers) + [numbers[0]]
    if any(plain_bend(sheet, i, j) is None for i, j in zip(round_trip, round_trip[1:])):
        return False
    return plain_walked(sheet, round_trip, START) != START


def plain_poses(sheet, first, pose):
    """The pose of each cell by some joins that reach it, each join tried in its turn until all cells have one."""
    poses = {first: pose}
    while len(poses) < len(sheet[0]):
        for i, j, bend in sheet[1]:
            for a, b in [(i, j), (j, i)]:
                if a in poses and b not in poses:
                    poses[b] = quick_led(bend, poses[a], plain_way(sheet, a, b))
    return [poses[k] for k in range(len(sheet[0]))]


def plain_folded(sheet, first=0, pose=START):
    """As point 14, but a ring is told as ("ring",) alone."""
    poses = plain_poses(sheet, first, pose)
    for i, j, bend in sheet[1]:
        if quick_led(bend, poses[i], plain_way(sheet, i, j)) != poses[j]:
            return ("ring",)
    for j in range(len(poses)):
        for i in range(j):
            if poses[i][0] == poses[j][0]:
                return ("clash", i, j)
    return ("folded", poses)


def to_nought(places):
    """The places, rising, so shifted that the least number at each place is 0."""
    return sorted(tuple(n - min(other[k] for other in places) for k, n in enumerate(place)) for place in places)


def plain_cell_turned(cell, k):
    x, y = cell
    for _ in range(k % 4):
        x, y = -y, x
    return (-x, y) if k >= 4 else (x, y)


def plain_sheet_turned(sheet, k, shift=(0, 0)):
    cells = [plus(plain_cell_turned(cell, k), shift) for cell in sheet[0]]
    return plain_sheet(cells, [(cells[i], cells[j], -bend if k >= 4 else bend) for i, j, bend in sheet[1]])


def plain_least_sheet(sheet):
    tellings = []
    for k in range(8):
        cells, joins = plain_sheet_turned(sheet, k)
        tellings.append((to_nought(cells), joins))
    return min(tellings)
