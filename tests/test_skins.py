"""Points 22 and 23: sheetfold.skins."""

import unittest

from keeping import ask_and_wreck, refused_and_kept
from samples import UNITS, is_pose
from sheet_samples import minus, plain_cross, plain_led, plus
from sheetfold.errors import Crowded
from sheetfold.skins import crowded, pose_on, skin_joins
from solid_samples import (
    BRIDGE, CROWDED_SOLIDS, EASY_SOLIDS, EVERY_SOLID, FIVES, SMALL_SOLIDS, TWO_CROWDS, edges_in, plain_crowded,
    plain_joins, plain_outward, plain_skin, shifted_cubes,
)

CORNER = [(0, 0, 0), (0, 1, 0), (1, 0, 0)]


class Crowds(unittest.TestCase):
    def test_by_hand(self):
        self.assertIs(crowded([(0, 0, 0)]), None)
        self.assertEqual(crowded(BRIDGE), (2, 2, 1))
        self.assertEqual(crowded(shifted_cubes(BRIDGE, (-1, 5, 10))), (0, 12, 21))

    def test_none_below_five_cubes(self):
        for solid in SMALL_SOLIDS:
            self.assertIs(crowded(solid), None)

    def test_samples(self):
        for solid in EVERY_SOLID + CROWDED_SOLIDS:
            self.assertEqual(repr(crowded(solid)), repr(plain_crowded(solid)))

    def test_where_four_squares_meet(self):
        for solid in CROWDED_SOLIDS:
            edges = [edge for square in plain_skin(solid) for edge in edges_in(square)]
            self.assertEqual([crowded(solid)], sorted({edge for edge in edges if edges.count(edge) == 4}))

    def test_the_least_of_several(self):
        for shift in [(0, 0, 0), (-3, -3, -3), (10, -10, 10)]:
            solid = shifted_cubes(TWO_CROWDS, shift)
            least = plus((2, 2, 1), plus(shift, shift))
            self.assertEqual(crowded(solid), least)
            self.assertEqual(refused_and_kept(self, Crowded, skin_joins, solid).edge, least)

    def test_the_joins_are_refused(self):
        self.assertGreater(len(CROWDED_SOLIDS), 100)
        for solid in CROWDED_SOLIDS:
            error = refused_and_kept(self, Crowded, skin_joins, solid)
            self.assertEqual(repr(error.edge), repr(plain_crowded(solid)))


class SkinJoins(unittest.TestCase):
    def test_one_cube(self):
        pairs = [(i, j) for i in range(6) for j in range(i + 1, 6) if i + j != 5]
        self.assertEqual(skin_joins([(0, 0, 0)]), [(i, j, -1) for i, j in pairs])

    def test_all_three_bends(self):
        bends = [bend for i, j, bend in skin_joins(CORNER)]
        self.assertEqual((bends.count(1), bends.count(0), bends.count(-1)), (1, 6, 21))
        skin = plain_skin(CORNER)
        inner = (skin.index((2, 3, 1)), skin.index((3, 2, 1)), 1)
        self.assertIn(inner, skin_joins(CORNER))

    def test_samples_against_a_plain_reckoning(self):
        for solid in EASY_SOLIDS:
            self.assertEqual(repr(skin_joins(solid)), repr(plain_joins(solid)))

    def test_twice_as_many_as_squares_and_rising(self):
        for solid in EASY_SOLIDS:
            told = skin_joins(solid)
            self.assertEqual(len(told), 2 * len(plain_skin(solid)))
            self.assertTrue(all(one[:2] < other[:2] for one, other in zip(told, told[1:])))
            self.assertTrue(all(i < j for i, j, bend in told))

    def test_each_leads_from_the_one_square_to_the_other_outward_to_outward(self):
        for solid in SMALL_SOLIDS + FIVES[::30]:
            if crowded(solid) is None:
                skin = plain_skin(solid)
                for i, j, bend in skin_joins(solid):
                    self.assert_led(solid, skin, i, j, bend)
                    self.assert_led(solid, skin, j, i, bend)

    def assert_led(self, solid, skin, i, j, bend):
        pose = pose_on(solid, i)
        edge = (set(edges_in(skin[i])) & set(edges_in(skin[j]))).pop()
        step = plus(edge, minus(skin[i]))
        way = [pose[1], pose[2], minus(pose[1]), minus(pose[2])].index(step)
        spot, right, up = plain_led(bend, pose, way)
        self.assertEqual((spot, plain_cross(right, up)), (skin[j], plain_outward(solid, skin[j])))


class PoseOn(unittest.TestCase):
    def test_one_cube(self):
        x, y, z = (1, 0, 0), (0, 1, 0), (0, 0, 1)
        want = [
            ((0, 1, 1), y, (0, 0, -1)),
            ((1, 0, 1), x, z),
            ((1, 1, 0), x, (0, -1, 0)),
            ((1, 1, 2), x, y),
            ((1, 2, 1), x, (0, 0, -1)),
            ((2, 1, 1), y, z),
        ]
        self.assertEqual([pose_on([(0, 0, 0)], i) for i in range(6)], want)

    def test_as_point_23_says(self):
        for solid in EVERY_SOLID + CROWDED_SOLIDS[::5]:
            for i, square in enumerate(plain_skin(solid)):
                told = pose_on(solid, i)
                self.assertTrue(is_pose(told))
                spot, right, up = told
                out = plain_outward(solid, square)
                lying = [unit for unit in UNITS if unit not in (out, minus(out))]
                self.assertEqual((spot, right, up), (square, sorted(lying)[-1], plain_cross(out, right)))
                self.assertEqual(plain_cross(right, up), out)

    def test_not_refused_where_an_edge_is_crowded(self):
        skin = plain_skin(BRIDGE)
        self.assertEqual([pose_on(BRIDGE, i)[0] for i in range(len(skin))], skin)


class Keeping(unittest.TestCase):
    def test_what_is_handed_in_and_told(self):
        for solid in EASY_SOLIDS[::12]:
            ask_and_wreck(self, crowded, solid)
            ask_and_wreck(self, skin_joins, solid)
            ask_and_wreck(self, pose_on, solid, 3)
        ask_and_wreck(self, crowded, BRIDGE)
        ask_and_wreck(self, pose_on, BRIDGE, 3)


if __name__ == "__main__":
    unittest.main()
