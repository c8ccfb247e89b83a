"""Trees of things that are tied by pairs, counted and told (point 31)."""

from sheetfold.errors import TooMany
from sheetfold.hanging import first_ring, least_apart

MOST_TREES = 400


def count_trees(n, pairs):
    return measure_of(table_of(n, pairs))


def table_of(n, pairs):
    """The table of point 31; its row and column k are those of the thing k + 1."""
    table = [[0] * (n - 1) for k in range(n - 1)]
    for pair in pairs:
        for i, j in ((pair[0] - 1, pair[1] - 1), (pair[1] - 1, pair[0] - 1)):
            if i >= 0:
                table[i][i] += 1
            if i >= 0 and j >= 0:
                table[i][j] -= 1
    return table


def measure_of(table):
    """The measure of such a table; no other thing than whole numbers comes up on the way."""
    ahead = 1
    while table:
        corner = table[0][0]
        if corner == 0:
            # In these tables a nought is left in the corner only where some things are tied to no others.
            return 0
        # Each number so made can be divided by the corner ahead: it is itself the measure of a part of the table.
        table = [[(row[j] * corner - row[0] * table[0][j]) // ahead for j in range(1, len(row))] for row in table[1:]]
        ahead = corner
    return ahead


def all_trees(n, pairs):
    if count_trees(n, pairs) > MOST_TREES:
        raise TooMany("there are more than 400 trees")
    if least_apart(n, pairs) is not None:
        return []
    return trees_with([], 0, n, pairs)


def trees_with(chosen, place, n, pairs):
    """All trees, rising, of the chosen places and some from this place on, by which all things can hang together."""
    if len(chosen) == n - 1:
        return [chosen]
    tied = [pairs[k] for k in chosen]
    trees = []
    if first_ring(n, tied + [pairs[place]]) is None:
        trees.extend(trees_with(chosen + [place], place + 1, n, pairs))
    if least_apart(n, tied + pairs[place + 1:]) is None:
        trees.extend(trees_with(chosen, place + 1, n, pairs))
    return trees
