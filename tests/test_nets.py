"""Point 32: sheetfold.nets."""

import itertools
import unittest

from keeping import ask_and_wreck, refused_and_kept
from sheet_samples import plain_folded, plain_least_sheet
from sheetfold.errors import Crowded, TooMany
from sheetfold.nets import sheets_of
from solid_samples import (
    BRIDGE, CROWDED_SOLIDS, EASY_SOLIDS, FAR_SHIFTS, TWO_CROWDS, odd_edges, plain_crowded, plain_joins, plain_laid_flat,
    plain_skin, shifted_cubes,
)

CUBE = [(0, 0, 0)]
ROW = [(0, 0, 0), (0, 0, 1)]
PLACES = [CUBE] + [shifted_cubes(CUBE, shift) for shift in [(3, -4, 5), (-1, -1, -1), *FAR_SHIFTS]]
TOLD = sheets_of(CUBE)


def cube_trees():
    """All trees of the skin of a cube, by going through all lists of five pairs."""
    pairs = [join[:2] for join in plain_joins(CUBE)]
    trees = []
    for tree in itertools.combinations(pairs, 5):
        groups = list(range(6))
        for i, j in tree:
            groups = [groups[i] if group == groups[j] else group for group in groups]
        if len(set(groups)) == 1:
            trees.append(list(tree))
    return trees


def plain_sheets():
    found = []
    for tree in cube_trees():
        kind, sheet, numbers = plain_laid_flat(CUBE, tree)
        least = plain_least_sheet(sheet)
        if least not in found:
            found.append(least)
    return sorted(found)


class OfACube(unittest.TestCase):
    def test_twenty_sheets(self):
        self.assertEqual((len(cube_trees()), len(TOLD)), (384, 20))

    def test_against_a_plain_reckoning(self):
        self.assertEqual(repr(TOLD), repr(plain_sheets()))

    def test_near_and_far(self):
        for solid in PLACES:
            self.assertEqual(repr(sheets_of(solid)), repr(TOLD))

    def test_rising_and_unlike(self):
        self.assertTrue(all(one < other for one, other in zip(TOLD, TOLD[1:])))

    def test_each_is_the_least_of_its_tellings(self):
        for sheet in TOLD:
            self.assertEqual(repr(sheet), repr(plain_least_sheet(sheet)))

    def test_each_closes_one_cube(self):
        for sheet in TOLD:
            kind, poses = plain_folded(sheet)
            squares = sorted(pose[0] for pose in poses)
            self.assertEqual((kind, odd_edges(squares)), ("folded", []))
            self.assertIn(squares, [plain_skin([(0, 0, 0)]), plain_skin([(0, 0, -1)])])

    def test_eleven_where_mirrored_ones_count_once(self):
        shapes = []
        for cells, joins in TOLD:
            mirrored = ([(y, x) for x, y in cells], [])
            shapes.append(min(plain_least_sheet((cells, [])), plain_least_sheet(mirrored)))
        self.assertEqual(len([shape for k, shape in enumerate(shapes) if shape not in shapes[:k]]), 11)


class Refused(unittest.TestCase):
    def test_two_cubes_are_too_many(self):
        for shift in [(0, 0, 0), *FAR_SHIFTS]:
            refused_and_kept(self, TooMany, sheets_of, shifted_cubes(ROW, shift))

    def test_each_other_solid_that_is_not_crowded(self):
        for solid in EASY_SOLIDS[::3]:
            if len(solid) > 1:
                refused_and_kept(self, TooMany, sheets_of, solid)

    def test_crowded_goes_ahead_of_too_many(self):
        for solid in CROWDED_SOLIDS[::3] + [BRIDGE]:
            self.assertEqual(refused_and_kept(self, Crowded, sheets_of, solid).edge, plain_crowded(solid))

    def test_the_least_crowded_edge(self):
        self.assertEqual(refused_and_kept(self, Crowded, sheets_of, TWO_CROWDS).edge, (2, 2, 1))


class Keeping(unittest.TestCase):
    def test_what_is_handed_in_and_told(self):
        ask_and_wreck(self, sheets_of, CUBE)
        ask_and_wreck(self, sheets_of, PLACES[2])


if __name__ == "__main__":
    unittest.main()
