"""Points 24 and 25: sheetfold.slits."""

import unittest

from keeping import ask_and_wreck, refused_and_kept
from samples import BIG
from sheet_samples import Draws, plain_cross, plain_folded
from sheetfold.errors import Crowded, NoTree
from sheetfold.slits import laid, tree_fault
from sheetfold.squares import closing
from solid_samples import (
    BRIDGE, CROWDED_SOLIDS, EASY_SOLIDS, FAR_SHIFTS, FIVES, SIXES, TWO_CROWDS, first_pose, odd_edges, plain_crowded,
    plain_joins, plain_laid, plain_laid_flat, plain_outward, plain_skin, random_tree, shifted_cubes,
)

CUBE = [(0, 0, 0)]
ROW = [(0, 0, 0), (0, 0, 1)]
CROSS = [(0, 1), (0, 2), (0, 3), (0, 4), (4, 5)]
LAP_SOLID = [(0, 0, 0), (0, 0, 1), (0, 1, 0), (1, 0, 0)]
FAR_SOLIDS = [shifted_cubes(solid, shift) for solid in [CUBE, ROW, LAP_SOLID] for shift in FAR_SHIFTS]


def some_trees():
    """Solids that aren't crowded, each with some of its trees."""
    draws = Draws(41)
    solids = EASY_SOLIDS + [solid for solid in SIXES[::50] + FIVES[::10] if plain_crowded(solid) is None] + FAR_SOLIDS
    return [(solid, random_tree(draws, solid)) for solid in solids for _ in range(1 if len(solid) > 4 else 2)]


TREES = some_trees()


def plain_hanging(pairs, start):
    """All numbers that hang together with start by the pairs."""
    found = {start}
    while True:
        more = {b for i, j in pairs for a, b in [(i, j), (j, i)] if a in found} - found
        if not more:
            return found
        found |= more


def plain_fault(solid, pairs):
    joined = [join[:2] for join in plain_joins(solid)]
    for k, pair in enumerate(pairs):
        if pair not in joined:
            return ("pair", k)
    for k, (i, j) in enumerate(pairs):
        if j in plain_hanging(pairs[:k], i):
            return ("ring", k)
    for k in range(len(plain_skin(solid))):
        if k not in plain_hanging(pairs, 0):
            return ("apart", k)
    return None


class NoFault(unittest.TestCase):
    def test_by_hand(self):
        self.assertIs(tree_fault(CUBE, CROSS), None)
        self.assertIs(tree_fault(CUBE, CROSS[::-1]), None)

    def test_trees_in_any_order(self):
        draws = Draws(42)
        for solid, pairs in TREES:
            self.assertIs(tree_fault(solid, pairs), None)
            self.assertIs(tree_fault(solid, sorted(pairs)), None)
            self.assertIs(tree_fault(solid, draws.shuffled(pairs)), None)

    def test_the_trees_are_of_solids_of_one_to_six_cubes(self):
        self.assertEqual({len(solid) for solid, pairs in TREES}, {1, 2, 3, 4, 5, 6})


class FaultsByHand(unittest.TestCase):
    def assert_fault(self, solid, pairs, why):
        self.assertEqual(repr(ask_and_wreck(self, tree_fault, solid, pairs)), repr(why))
        error = refused_and_kept(self, NoTree, laid, solid, pairs)
        self.assertEqual(repr(error.why), repr(why))

    def test_no_pairs(self):
        self.assert_fault(CUBE, [], ("apart", 1))

    def test_a_pair_turned_about(self):
        for k, (i, j) in enumerate(CROSS):
            self.assert_fault(CUBE, CROSS[:k] + [(j, i)] + CROSS[k + 1:], ("pair", k))

    def test_squares_that_are_not_joined(self):
        self.assert_fault(CUBE, [(0, 1), (0, 5), (0, 2), (0, 3), (0, 4)], ("pair", 1))
        self.assert_fault(CUBE, CROSS[:4] + [(2, 3)], ("pair", 4))
        self.assert_fault(CUBE, [(2, 2)] + CROSS[1:], ("pair", 0))

    def test_numbers_of_no_square(self):
        for wrong in [(-1, 0), (0, -1), (-6, -5), (0, 6), (5, 6), (0, BIG), (-BIG, 0), (BIG, BIG), (-2, -1)]:
            for k in range(5):
                self.assert_fault(CUBE, CROSS[:k] + [wrong] + CROSS[k + 1:], ("pair", k))
        self.assert_fault(CUBE, CROSS + [(4, 6)], ("pair", 5))

    def test_a_pair_twice(self):
        self.assert_fault(CUBE, CROSS + [(0, 1)], ("ring", 5))
        self.assert_fault(CUBE, [(0, 1), (0, 1), (0, 2), (0, 3), (0, 4)], ("ring", 1))

    def test_a_ring(self):
        self.assert_fault(CUBE, [(0, 1), (1, 3), (0, 3), (0, 2), (4, 5)], ("ring", 2))
        self.assert_fault(CUBE, CROSS + [(2, 5)], ("ring", 5))

    def test_a_pair_left_out(self):
        for k in range(4):
            self.assert_fault(CUBE, CROSS[:k] + CROSS[k + 1:], ("apart", k + 1))
        self.assert_fault(CUBE, CROSS[:4], ("apart", 5))
        self.assert_fault(CUBE, [(1, 2), (1, 3), (2, 4), (3, 5)], ("apart", 1))

    def test_the_least_that_is_apart_though_it_hangs_together_with_others(self):
        self.assert_fault(CUBE, [(0, 4), (4, 5), (1, 2)], ("apart", 1))
        self.assert_fault(CUBE, [(0, 1), (1, 2), (4, 5)], ("apart", 3))

    def test_a_pair_amiss_goes_ahead_of_a_ring_ahead_of_apart(self):
        ring = [(0, 1), (1, 3), (0, 3)]
        self.assert_fault(CUBE, ring, ("ring", 2))
        self.assert_fault(CUBE, ring + [(1, 0)], ("pair", 3))
        self.assert_fault(CUBE, ring + [(0, 5), (5, 9)], ("pair", 3))
        self.assert_fault(CUBE, [(0, 1), (3, 2)], ("pair", 1))
        self.assert_fault(CUBE, CROSS + [(2, 5), (5, 2)], ("pair", 6))

    def test_the_first_of_each_kind(self):
        self.assert_fault(CUBE, [(0, 1), (1, 0), (0, 2), (2, 0)], ("pair", 1))
        self.assert_fault(CUBE, [(0, 1), (0, 2), (0, 2), (0, 1), (0, 3), (1, 3)], ("ring", 2))

    def test_a_hundred_pairs(self):
        self.assert_fault(CUBE, CROSS * 20, ("ring", 5))
        self.assert_fault(CUBE, CROSS * 19 + [(0, 1), (0, 2), (0, 3), (0, 4), (5, 4)], ("pair", 99))


class FaultSamples(unittest.TestCase):
    def assert_as_reckoned(self, solid, pairs):
        want = plain_fault(solid, pairs)
        self.assertEqual(repr(tree_fault(solid, pairs)), repr(want))
        if want is not None:
            self.assertEqual(repr(refused_and_kept(self, NoTree, laid, solid, pairs).why), repr(want))
        return want

    def test_trees_with_something_amiss(self):
        draws = Draws(43)
        kinds = []
        for solid, pairs in TREES[::4]:
            count = len(pairs) + 1
            joined = [join[:2] for join in plain_joins(solid)]
            for faults in range(1, 4):
                wrong = list(pairs)
                for _ in range(faults):
                    self.make_a_fault(draws, wrong, joined, count)
                kinds.append(self.assert_as_reckoned(solid, wrong))
        kinds = [why and why[0] for why in kinds]
        for kind in ["pair", "ring", "apart"]:
            self.assertGreater(kinds.count(kind), 20)

    def make_a_fault(self, draws, pairs, joined, count):
        kind = draws.below(5)
        k = draws.below(len(pairs))
        if kind == 0:
            pairs[k] = pairs[k][::-1]
        elif kind == 1:
            pairs[k] = (draws.below(count), draws.below(count))
        elif kind == 2:
            pairs.insert(k, draws.one_of(joined))
        elif kind == 3:
            pairs[k] = draws.one_of(joined)
        elif len(pairs) > 1:
            pairs.pop(k)

    def test_joined_pairs_drawn_by_lot(self):
        draws = Draws(44)
        for solid, pairs in TREES[::8]:
            joined = draws.shuffled([join[:2] for join in plain_joins(solid)])
            for length in [0, 1, len(pairs) // 2, len(pairs) - 1, len(pairs), len(joined)]:
                self.assert_as_reckoned(solid, joined[:length])


class CrowdedOnes(unittest.TestCase):
    def test_whatever_the_pairs_are(self):
        for solid in CROWDED_SOLIDS[::3] + [BRIDGE]:
            edge = plain_crowded(solid)
            for pairs in [[], CROSS, [(1, 0)], [(0, 0), (BIG, -BIG)], [(0, 1), (0, 1)]]:
                for ask in [tree_fault, laid]:
                    error = refused_and_kept(self, Crowded, ask, solid, pairs)
                    self.assertEqual(repr(error.edge), repr(edge))

    def test_the_least_edge_of_two(self):
        for ask in [tree_fault, laid]:
            self.assertEqual(refused_and_kept(self, Crowded, ask, TWO_CROWDS, []).edge, (2, 2, 1))


class Laid(unittest.TestCase):
    def test_by_hand(self):
        cells = [(-1, 0), (0, -1), (0, 0), (0, 1), (1, 0), (2, 0)]
        joins = [(0, 2, -1), (1, 2, -1), (2, 3, -1), (2, 4, -1), (4, 5, -1)]
        want = ("flat", (cells, joins), [1, 3, 0, 2, 4, 5])
        self.assertEqual(repr(laid(CUBE, CROSS)), repr(want))
        self.assertEqual(repr(laid(CUBE, CROSS[::-1])), repr(want))
        self.assertEqual(repr(laid(shifted_cubes(CUBE, FAR_SHIFTS[0]), CROSS)), repr(want))

    def test_samples_against_a_plain_reckoning(self):
        for solid, pairs in TREES:
            self.assertEqual(repr(laid(solid, pairs)), repr(plain_laid_flat(solid, pairs)))

    def test_the_order_of_the_pairs_does_not_count(self):
        draws = Draws(45)
        for solid, pairs in TREES[::5]:
            self.assertEqual(laid(solid, draws.shuffled(pairs)), laid(solid, pairs))

    def test_both_answers_are_among_them(self):
        kinds = [laid(solid, pairs)[0] for solid, pairs in TREES]
        self.assertGreater(kinds.count("flat"), 100)
        self.assertGreater(kinds.count("lap"), 50)

    def test_every_tree_of_a_cube_is_flat(self):
        draws = Draws(46)
        for _ in range(300):
            told = laid(CUBE, random_tree(draws, CUBE))
            self.assertEqual((told[0], len(told[1][0]), len(told[1][1])), ("flat", 6, 5))

    def test_a_lap_of_several_has_the_least_j(self):
        several = 0
        for solid, pairs in TREES:
            cells = [place[0] for number, place in sorted(plain_laid(solid, pairs).items())]
            laps = [(i, j) for j in range(len(cells)) for i in range(j) if cells[i] == cells[j]]
            if len(laps) > 1 and min(laps) != laps[0]:
                several += 1
                self.assertEqual(laid(solid, pairs), ("lap", *laps[0]))
        self.assertGreater(several, 5)


class FoldedAgain(unittest.TestCase):
    FLAT = [(solid, laid(solid, pairs)) for solid, pairs in TREES if plain_laid_flat(solid, pairs)[0] == "flat"]

    def test_it_is_the_skin_square_by_square(self):
        for solid, (kind, sheet, numbers) in self.FLAT:
            skin = plain_skin(solid)
            first = numbers.index(0)
            self.assertEqual(sheet[0][first], (0, 0))
            kind, poses = plain_folded(sheet, first, first_pose(solid))
            self.assertEqual(kind, "folded")
            self.assertEqual([pose[0] for pose in poses], [skin[k] for k in numbers])
            self.assertEqual(sorted(pose[0] for pose in poses), skin)
            for spot, right, up in poses:
                self.assertEqual(plain_cross(right, up), plain_outward(solid, spot))

    def test_it_closes_with_the_cubes_of_the_solid(self):
        for solid, (kind, sheet, numbers) in self.FLAT:
            poses = plain_folded(sheet, numbers.index(0), first_pose(solid))[1]
            squares = [pose[0] for pose in poses]
            self.assertEqual(odd_edges(squares), [])
            self.assertEqual(closing(squares), ("closed", solid))

    def test_numbers_are_those_of_all_squares_and_joins_those_of_the_tree(self):
        for solid, pairs in TREES:
            told = laid(solid, pairs)
            if told[0] == "flat":
                numbers = told[2]
                self.assertEqual(sorted(numbers), list(range(len(plain_skin(solid)))))
                ties = [tuple(sorted((numbers[i], numbers[j]))) + (bend,) for i, j, bend in told[1][1]]
                self.assertEqual(sorted(ties), [join for join in plain_joins(solid) if join[:2] in pairs])


class Keeping(unittest.TestCase):
    def test_what_is_handed_in_and_told(self):
        for solid, pairs in TREES[::20]:
            ask_and_wreck(self, tree_fault, solid, pairs)
            ask_and_wreck(self, tree_fault, solid, pairs[1:])
            ask_and_wreck(self, laid, solid, pairs)


if __name__ == "__main__":
    unittest.main()
