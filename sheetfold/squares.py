"""Squares of space, cubes, and what squares close (points 12 and 17 to 19)."""

from sheetfold.turns import UNITS, added


def axis_of(square):
    return [number % 2 for number in square].index(0)


def around(spot, axis):
    """The spot and each of the four units that are not along the axis, added up, rising."""
    return sorted([added(spot, unit) for unit in UNITS if unit[axis] == 0])


def edges_of(square):
    return around(square, axis_of(square))


def squares_at(edge):
    # The one odd number of an edge is that of the axis along which it lies.
    return around(edge, [number % 2 for number in edge].index(1))


def middle_of(cube):
    return (2 * cube[0] + 1, 2 * cube[1] + 1, 2 * cube[2] + 1)


def cube_of(spot):
    # Halved downwards, a cube's middle gives its place; so does the square below it, which is one less.
    return (spot[0] // 2, spot[1] // 2, spot[2] // 2)


def cubes_at(square):
    axis = axis_of(square)
    lower = [number - 1 if k == axis else number for k, number in enumerate(square)]
    return (cube_of(lower), cube_of(square))


def skin_of(cubes):
    counts = {}
    for cube in cubes:
        for unit in UNITS:
            square = added(middle_of(cube), unit)
            counts[square] = counts.get(square, 0) + 1
    return sorted([square for square in counts if counts[square] == 1])


def edge_counts(squares):
    """A dict that tells of each edge of the squares to how many of them it belongs."""
    counts = {}
    for square in squares:
        for edge in edges_of(square):
            counts[edge] = counts.get(edge, 0) + 1
    return counts


def closing(squares):
    counts = edge_counts(squares)
    odd = [edge for edge in counts if counts[edge] % 2 == 1]
    if odd:
        return ("open", min(odd))
    return ("closed", cubes_within(squares))


def cubes_within(squares):
    """The cubes that closed squares close, rising."""
    columns = {}
    for square in sorted(squares):
        if axis_of(square) == 0:
            columns.setdefault((square[1], square[2]), []).append(square[0])
    cubes = []
    for across, walls in columns.items():
        # Along a column every other wall leads in and the next one out again; few squares close no long columns.
        for k in range(0, len(walls), 2):
            for x in range(walls[k], walls[k + 1], 2):
                cubes.append(cube_of((x, across[0], across[1])))
    return sorted(cubes)


def crossings(squares, cube, axis):
    middle = middle_of(cube)
    return len([square for square in squares if is_crossed(square, middle, axis)])


def is_crossed(square, middle, axis):
    if axis_of(square) != axis or square[axis] <= middle[axis]:
        return False
    return all([square[k] == middle[k] for k in range(3) if k != axis])
