"""Papers that show all ways to bend a sheet: whether they hold, and their ends (points 29 and 30)."""

from sheetfold.errors import NoWay
from sheetfold.folding import START, folded, is_ring, walked
from sheetfold.joins import BENDS
from sheetfold.squares import closing


def paper_holds(sheet, free, paper):
    chosen = [join for k, join in enumerate(sheet[1]) if k not in free]
    return holds(paper, (sheet[0], chosen), [sheet[1][k][:2] for k in free])


def holds(paper, part, unchosen):
    """Whether the paper is right of a sheet with the chosen joins alone, and of the pairs of cells of the others."""
    if paper[0] == "bend":
        return bend_holds(paper, part, unchosen)
    if paper[0] == "ring":
        return isinstance(paper[1], list) and is_ring(part, paper[1])
    if paper[0] == "clash":
        return isinstance(paper[1], list) and is_clash(part, paper[1])
    return not unchosen and closing_of(part) == paper


def bend_holds(paper, part, unchosen):
    pair = (paper[1], paper[2])
    if pair not in unchosen:
        return False
    left = [other for other in unchosen if other != pair]
    for bend, inner in zip(BENDS, (paper[3], paper[4], paper[5])):
        if not holds(inner, (part[0], part[1] + [(pair[0], pair[1], bend)]), left):
            return False
    return True


def is_clash(part, numbers):
    """Whether the chosen joins lead from the first cell of the list to the last, another one, on the same square."""
    if not numbers or numbers[0] == numbers[-1]:
        return False
    try:
        return walked(part, numbers, START)[0] == START[0]
    except NoWay:
        return False


def closing_of(sheet):
    """What the folded sheet closes, or None where it is not folded."""
    told = folded(sheet)
    return closing([pose[0] for pose in told[1]]) if told[0] == "folded" else None


def ends_of(paper):
    if paper[0] == "bend":
        return ends_of(paper[3]) + ends_of(paper[4]) + ends_of(paper[5])
    # A list in an end is copied: what is told is the asker's own.
    return [(paper[0], list(paper[1]) if isinstance(paper[1], list) else paper[1])]
