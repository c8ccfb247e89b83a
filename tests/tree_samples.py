"""A plain reckoning of how many trees there are, for several test files."""

from fractions import Fraction


def plain_count(n, pairs):
    """The measure of the table with the last thing left out, by fractions."""
    table = [[Fraction(0)] * n for _ in range(n)]
    for i, j in pairs:
        table[i][i] += 1
        table[j][j] += 1
        table[i][j] -= 1
        table[j][i] -= 1
    table = [line[:-1] for line in table[:-1]]
    measure = Fraction(1)
    for k in range(n - 1):
        pivot = next((m for m in range(k, n - 1) if table[m][k]), None)
        if pivot is None:
            return 0
        if pivot != k:
            table[k], table[pivot] = table[pivot], table[k]
            measure = -measure
        measure *= table[k][k]
        for m in range(k + 1, n - 1):
            factor = table[m][k] / table[k][k]
            table[m] = [a - factor * b for a, b in zip(table[m], table[k])]
    return measure
