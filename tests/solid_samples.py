"""Cubes and solids that several test files try, made without the program, and a plain reckoning of their skins."""

import itertools

from samples import UNITS
from sheet_samples import Draws, around, minus, plain_sheet, plus, quick_led

FAR = 10 ** 20


def middle(cube):
    return tuple(2 * n + 1 for n in cube)


def sides(cube):
    return [plus(middle(cube), unit) for unit in UNITS]


def shifted_cubes(cubes, shift):
    return [plus(cube, shift) for cube in cubes]


def solids(n):
    """All solids of n cubes of which (0, 0, 0) is the least cube."""
    found = {((0, 0, 0),)}
    for _ in range(n - 1):
        grown = set()
        for cubes in found:
            for cube in {plus(c, unit) for c in cubes for unit in UNITS} - set(cubes):
                more = sorted(cubes + (cube,))
                grown.add(tuple(shifted_cubes(more, minus(more[0]))))
        found = grown
    return sorted(list(cubes) for cubes in found)


SMALL_SOLIDS = [solid for n in range(1, 5) for solid in solids(n)]
FIVES = solids(5)
SIXES = solids(6)

# Two cubes that touch at an edge alone, and hang together by way of three others: the shortest crowded solid.
BRIDGE = [(0, 0, 0), (0, 0, 1), (0, 1, 1), (1, 1, 0), (1, 1, 1)]
# No solid of six cubes has two crowded edges, so "the least" can be tried only with one cube more.
TWO_CROWDS = [(0, 0, 0), (0, 0, 1), (0, 0, 2), (0, 1, 2), (1, 1, 0), (1, 1, 1), (1, 1, 2)]
HOLLOW_6 = sorted(UNITS)
HOLLOW_26 = [cube for cube in itertools.product([-1, 0, 1], repeat=3) if cube != (0, 0, 0)]
FAR_SHIFTS = [(FAR - 3, 3 - FAR, FAR - 3), (3 - FAR, 0, 3 - FAR)]


def between(square):
    """The lower and the upper cube of a square."""
    axis = [n % 2 for n in square].index(0)
    unit = tuple(1 if k == axis else 0 for k in range(3))
    ends = plus(square, minus(unit)), plus(square, unit)
    return tuple(tuple((n - 1) // 2 for n in end) for end in ends)


def remembered(reckon):
    """The same reckoning of a list of tuples, done once for each list: several tests ask for it again and again."""
    told = {}

    def ask(things):
        key = tuple(things)
        if key not in told:
            told[key] = reckon(things)
        return list(told[key])

    return ask


@remembered
def plain_skin(cubes):
    squares = {square for cube in cubes for square in sides(cube)}
    return sorted(s for s in squares if sum(cube in cubes for cube in between(s)) == 1)


def edges_in(square):
    """The edges of a square: the spots beside it that have just one odd number."""
    beside = [plus(square, unit) for unit in UNITS]
    return sorted(spot for spot in beside if sum(n % 2 for n in spot) == 1)


def odd_edges(squares):
    """The edges that belong to an odd number of the squares, rising."""
    left = set()
    for square in squares:
        left ^= set(edges_in(square))
    return sorted(left)


def cubes_round(edge):
    """The four cubes round an edge, each beside the next one."""
    flat = [k for k in range(3) if edge[k] % 2 == 0]
    cubes = []
    for one, other in [(1, 1), (1, -1), (-1, -1), (-1, 1)]:
        spot = list(edge)
        spot[flat[0]] += one
        spot[flat[1]] += other
        cubes.append(tuple((n - 1) // 2 for n in spot))
    return cubes


def plain_crowded(solid):
    """The least edge at which two cubes stand across from one another, and the two others are missing."""
    edges = {edge for cube in solid for square in sides(cube) for edge in edges_in(square)}
    crowds = []
    for edge in edges:
        within = [cube in solid for cube in cubes_round(edge)]
        if within in ([True, False, True, False], [False, True, False, True]):
            crowds.append(edge)
    return min(crowds, default=None)


@remembered
def plain_joins(solid):
    """Point 22 by how many cubes of the solid stand round each edge: one, two side by side, or three."""
    skin = plain_skin(solid)
    joins = []
    for i, j in itertools.combinations(range(len(skin)), 2):
        for edge in set(edges_in(skin[i])) & set(edges_in(skin[j])):
            count = sum(cube in solid for cube in cubes_round(edge))
            joins.append((i, j, count - 2))
    return sorted(joins)


def plain_outward(solid, square):
    lower, upper = between(square)
    own = lower if lower in solid else upper
    return plus(square, minus(middle(own)))


def grown_cubes(draws, n):
    cubes = [(0, 0, 0)]
    while len(cubes) < n:
        cube = plus(draws.one_of(cubes), draws.one_of(UNITS))
        if cube not in cubes:
            cubes.append(cube)
    return cubes


def scattered_cubes(draws, n, width):
    places = list(itertools.product(range(width), repeat=3))
    return draws.shuffled(places)[:n]


def cube_sets():
    """Lists of one to twenty unlike cubes, in whatever order, that hang together or not."""
    draws = Draws(21)
    sets = []
    for n in range(1, 21):
        for _ in range(3):
            sets.append(draws.shuffled(grown_cubes(draws, n)))
            sets.append(scattered_cubes(draws, n, 3))
            sets.append(scattered_cubes(draws, n, 6))
    return sets


CUBE_SETS = cube_sets()
EVERY_SOLID = SMALL_SOLIDS + FIVES[::4] + SIXES[::40] + [BRIDGE]
EVERY_SOLID += [shifted_cubes(solid, shift) for solid in SMALL_SOLIDS[::9] + [BRIDGE] for shift in FAR_SHIFTS]
EVERY_SOLID += [shifted_cubes(solid, (-2, -1, -3)) for solid in FIVES[::40] + SIXES[::400]]
EASY_SOLIDS = [solid for solid in EVERY_SOLID if plain_crowded(solid) is None]
CROWDED_SOLIDS = [solid for solid in FIVES + SIXES[::4] + EVERY_SOLID if plain_crowded(solid) is not None]


def random_tree(draws, solid):
    """Pairs of a tree of the skin, in whatever order."""
    groups = list(range(len(plain_skin(solid))))
    pairs = []
    for i, j, bend in draws.shuffled(plain_joins(solid)):
        if groups[i] != groups[j]:
            pairs.append((i, j))
            groups = [groups[i] if group == groups[j] else group for group in groups]
    return pairs


def first_pose(solid):
    """The pose on square 0, which has the lowest first number: it lies across the first axis and faces downward."""
    return (plain_skin(solid)[0], (0, 1, 0), (0, 0, -1))


def plain_laid(solid, pairs):
    """Point 25 square by square: the cell and the pose of each one."""
    skin = plain_skin(solid)
    bends = {join[:2]: join[2] for join in plain_joins(solid)}
    placed = {0: ((0, 0), first_pose(solid))}
    while len(placed) < len(skin):
        for pair in pairs:
            for i, j in [pair, pair[::-1]]:
                if i in placed and j not in placed:
                    cell, pose = placed[i]
                    edge = (set(edges_in(skin[i])) & set(edges_in(skin[j]))).pop()
                    unit = plus(edge, minus(skin[i]))
                    way = [pose[1], pose[2], minus(pose[1]), minus(pose[2])].index(unit)
                    placed[j] = (around(cell)[way], quick_led(bends[pair], pose, way))
    return placed


def plain_laid_flat(solid, pairs):
    """The answer of point 25 to a right tree."""
    cells = [place[0] for number, place in sorted(plain_laid(solid, pairs).items())]
    for j in range(len(cells)):
        if cells[j] in cells[:j]:
            return ("lap", cells.index(cells[j]), j)
    bends = {join[:2]: join[2] for join in plain_joins(solid)}
    sheet = plain_sheet(cells, [(cells[i], cells[j], bends[i, j]) for i, j in pairs])
    return ("flat", sheet, [cells.index(cell) for cell in sheet[0]])
