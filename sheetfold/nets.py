"""The sheets of a solid: all that its skin may be laid out to (point 32)."""

from sheetfold.likes import least_sheet
from sheetfold.skins import skin_joins
from sheetfold.slits import laid
from sheetfold.squares import skin_of
from sheetfold.trees import all_trees


def sheets_of(solid):
    pairs = [(i, j) for i, j, bend in skin_joins(solid)]
    trees = all_trees(len(skin_of(solid)), pairs)
    answers = [laid(solid, [pairs[k] for k in tree]) for tree in trees]
    return each_once([least_sheet(told[1]) for told in answers if told[0] == "flat"])


def each_once(sheets):
    """The sheets, rising, each once."""
    unlike = []
    for sheet in sorted(sheets):
        if not unlike or unlike[-1] != sheet:
            unlike.append(sheet)
    return unlike
