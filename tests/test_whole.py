"""Point 3: what holds of the modules one behind the other, and that told things may be handed in again."""

import copy
import unittest

from keeping import wreck
from sheet_samples import MANY, SMALL, Draws
from sheetfold.bendings import bendings
from sheetfold.desk import Desk
from sheetfold.drawings import drawn, seen, sheet_read, sheet_text
from sheetfold.folding import folded, is_ring, walked
from sheetfold.likes import least_sheet, least_solid, same_sheets, same_solids, sheet_turned, solid_turned
from sheetfold.moves import move_between, pose_moved
from sheetfold.nets import sheets_of
from sheetfold.papers import ends_of, paper_holds
from sheetfold.sheets import bends_of, neighbours, with_bends
from sheetfold.skins import pose_on, skin_joins
from sheetfold.slits import laid, tree_fault
from sheetfold.solids import outward, solid_of
from sheetfold.squares import closing, crossings, skin_of
from sheetfold.trees import all_trees, count_trees
from sheetfold.turns import all_turns
from sheetfold.ways import steps_from, way_over
from solid_samples import EASY_SOLIDS, FAR_SHIFTS, random_tree, shifted_cubes

START = ((1, 1, 0), (1, 0, 0), (0, 1, 0))


def flat_sheets(draws, count):
    """Solids with trees by which their skins are laid flat, and what is told of them."""
    found = []
    while len(found) < count:
        solid = draws.one_of(EASY_SOLIDS)
        pairs = random_tree(draws, solid)
        told = laid(solid, pairs)
        if told[0] == "flat":
            found.append((solid, pairs, told))
    return found


class Whole(unittest.TestCase):
    FLAT = flat_sheets(Draws(111), 60)

    def test_a_skin_laid_flat_and_folded_is_the_skin(self):
        for solid, pairs, (kind, sheet, numbers) in self.FLAT:
            first = numbers.index(0)
            kind, poses = folded(sheet, first, pose_on(solid, 0))
            self.assertEqual([pose[0] for pose in poses], [skin_of(solid)[k] for k in numbers])
            self.assertEqual(closing([pose[0] for pose in poses]), ("closed", solid))

    def test_folded_from_the_plain_pose_it_closes_the_same_solid(self):
        for solid, pairs, (kind, sheet, numbers) in self.FLAT:
            kind, cubes = closing([pose[0] for pose in folded(sheet)[1]])
            self.assertEqual(same_solids(solid_of(cubes), solid)[0], "same")
            self.assertEqual(least_solid(cubes), least_solid(solid))

    def test_all_poses_are_moved_by_one_move(self):
        for solid, pairs, (kind, sheet, numbers) in self.FLAT:
            there = folded(sheet, numbers.index(0), pose_on(solid, 0))[1]
            here = folded(sheet)[1]
            move = move_between(here[0], there[0])
            self.assertEqual([pose_moved(move, pose) for pose in here], there)

    def test_crossings_tell_the_cubes(self):
        for solid, pairs, told in self.FLAT[::4]:
            for cube in solid:
                self.assertEqual([crossings(skin_of(solid), cube, axis) % 2 for axis in range(3)], [1, 1, 1])

    def test_the_bends_of_a_skin_are_among_the_closings(self):
        draws = Draws(112)
        for solid, pairs, (kind, sheet, numbers) in self.FLAT:
            free = sorted(draws.shuffled(range(len(sheet[1])))[:3])
            closings, paper = bendings(sheet, free)
            self.assertIn(bends_of(sheet), closings)
            self.assertIs(paper_holds(sheet, free, paper), True)
            for bends in closings:
                self.assertEqual(bendings(with_bends(sheet, bends), free), (closings, paper))

    def test_turned_and_drawn_it_stays_the_same_sheet(self):
        for solid, pairs, (kind, sheet, numbers) in self.FLAT:
            for k in range(8):
                anew = sheet_turned(sheet, k, (10 ** 20, -10 ** 20))
                self.assertEqual(same_sheets(sheet, anew)[0], "same")
                self.assertEqual(same_sheets(seen(drawn(anew)), sheet)[0], "same")
                cubes = closing([pose[0] for pose in folded(anew)[1]])[1]
                self.assertEqual(same_solids(cubes, solid)[0], "same")

    def test_a_solid_turned_has_as_many_trees_and_the_same_steps(self):
        for solid, pairs, told in self.FLAT[::6]:
            count = count_trees(len(skin_of(solid)), [join[:2] for join in skin_joins(solid)])
            steps = sorted(sorted(steps_from(solid, k)) for k in range(len(skin_of(solid))))
            for turn in all_turns()[::7]:
                anew = solid_turned(solid, turn, (-5, 0, 5))
                ties = [join[:2] for join in skin_joins(anew)]
                self.assertEqual(count_trees(len(skin_of(anew)), ties), count)
                self.assertEqual(sorted(sorted(steps_from(anew, k)) for k in range(len(skin_of(anew)))), steps)

    def test_the_trees_of_a_cube_are_trees_of_its_skin(self):
        cube = [(0, 0, 0)]
        ties = [join[:2] for join in skin_joins(cube)]
        trees = all_trees(6, ties)
        self.assertEqual(len(trees), 384)
        sheets = sheets_of(cube)
        for tree in trees:
            pairs = [ties[k] for k in tree]
            self.assertIs(tree_fault(cube, pairs), None)
            self.assertIn(least_sheet(laid(cube, pairs)[1]), sheets)

    def test_the_squares_of_a_way_are_those_of_the_skin(self):
        for solid, pairs, (kind, sheet, numbers) in self.FLAT[::5]:
            way, steps = way_over(solid, 0, len(numbers) - 1)
            squares = skin_of(solid)
            self.assertEqual(len(way), steps[way[-1]] + 1)
            for k in way:
                self.assertEqual(pose_on(solid, k)[0], squares[k])
                self.assertEqual(sum(map(abs, outward(solid, squares[k]))), 1)

    def test_a_desk_goes_the_whole_round(self):
        for solid, pairs, (kind, sheet, numbers) in self.FLAT[::3]:
            low = min(min(cube) for cube in solid)
            near = solid if abs(low) < 1000 else shifted_cubes(solid, [-n for n in solid[0]])
            desk = Desk()
            words = " ".join(",".join(map(str, cube)) for cube in near)
            desk.tell("solid one " + words)
            desk.tell("lay flat one " + " ".join(f"{i}-{j}" for i, j in pairs))
            self.assertEqual(desk.tell("show flat"), sheet_text(sheet))
            desk.tell("make other flat")
            self.assertEqual(desk.tell("same one other"), "yes")
            self.assertEqual(desk.tell("bends flat"), "1")


class ToldThingsHandedInAgain(unittest.TestCase):
    def test_rings_and_papers(self):
        for sheet in SMALL[::20] + MANY[::8]:
            told = folded(sheet)
            if told[0] == "ring":
                self.assertIs(is_ring(sheet, told[1]), True)
                self.assertNotEqual(walked(sheet, told[1] + told[1][:1], START), START)
            free = list(range(min(3, len(sheet[1]))))
            for end in ends_of(bendings(sheet, free)[1]):
                self.assertEqual(ends_of(end), [end])

    def test_sheets_of_any_source(self):
        for sheet in [sheet_read("#^#"), laid([(0, 0, 0)], [(0, 1), (0, 2), (0, 3), (0, 4), (4, 5)])[1]]:
            for again in [sheet_turned(sheet, 3), least_sheet(sheet), with_bends(sheet, bends_of(sheet))]:
                self.assertEqual(len(neighbours(again, 0)), len([j for j in again[1] if 0 in j[:2]]))
                self.assertEqual(same_sheets(again, sheet)[0], "same")

    def test_solids_far_off(self):
        for shift in FAR_SHIFTS:
            solid = shifted_cubes([(0, 0, 0), (0, 0, 1), (0, 1, 0)], shift)
            told = same_solids(solid, least_solid(solid))
            self.assertEqual(told[0], "same")
            self.assertEqual(solid_turned(solid, told[1], told[2]), least_solid(solid))


class NothingIsShared(unittest.TestCase):
    def test_what_one_function_told_is_not_changed_by_what_is_done_to_anothers(self):
        solid = [(0, 0, 0), (0, 0, 1)]
        sheet = sheet_read("#^#/+.+/#+#")
        asks = [
            lambda: skin_of(solid), lambda: skin_joins(solid), lambda: least_solid(solid), lambda: solid_of(solid),
            lambda: folded(sheet), lambda: bendings(sheet, [0, 1]), lambda: least_sheet(sheet),
            lambda: sheet_turned(sheet, 0), lambda: same_sheets(sheet, sheet_read("#")), lambda: all_turns(),
            lambda: same_solids(solid, [(0, 0, 0)]), lambda: steps_from(solid, 0), lambda: way_over(solid, 0, 9),
            lambda: all_trees(3, [(0, 1), (1, 2), (0, 2)]), lambda: sheets_of([(0, 0, 0)]), lambda: drawn(sheet),
        ]
        wants = [copy.deepcopy(ask()) for ask in asks]
        for ask in asks:
            wreck(ask())
            self.assertEqual([other() for other in asks], wants)


if __name__ == "__main__":
    unittest.main()
