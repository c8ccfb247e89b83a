"""Points 20 and 21: sheetfold.solids."""

import itertools
import unittest

from keeping import ask_and_wreck, refused_and_kept
from samples import UNITS
from sheet_samples import Draws, minus, plus
from sheetfold.errors import NoSolid, NoSquare
from sheetfold.solids import outward, solid_of
from solid_samples import (
    BRIDGE, CUBE_SETS, EVERY_SOLID, FAR, FIVES, HOLLOW_6, SIXES, SMALL_SOLIDS, between, edges_in, middle, plain_outward,
    plain_skin, shifted_cubes, sides,
)

ROW = [(x, 0, 0) for x in range(60)]
FAR_SHIFTS = [(FAR - 6, 6 - FAR, FAR - 6), (6 - FAR, 6 - FAR, 0)]


def hanging_with_the_least(cubes):
    reached = {min(cubes)}
    for _ in cubes:
        reached |= {cube for cube in cubes for unit in UNITS if plus(cube, unit) in reached}
    return reached


class RightSolids(unittest.TestCase):
    def test_one_cube(self):
        for cube in [(0, 0, 0), (-1, 2, -3), (FAR, -FAR, FAR)]:
            self.assertEqual(repr(solid_of([cube])), repr([cube]))

    def test_by_hand(self):
        self.assertEqual(solid_of([(1, 0, 0), (0, 0, 0)]), [(0, 0, 0), (1, 0, 0)])
        self.assertEqual(solid_of(ROW[5::-1]), ROW[:6])
        self.assertEqual(solid_of(BRIDGE[::-1]), BRIDGE)

    def test_samples_in_any_order(self):
        draws = Draws(31)
        for solid in SMALL_SOLIDS + FIVES[::5] + SIXES[::10]:
            for shift in [(0, 0, 0), (-2, 5, -9)] + FAR_SHIFTS:
                want = shifted_cubes(solid, shift)
                self.assertEqual(repr(solid_of(want)), repr(want))
                self.assertEqual(solid_of(want[::-1]), want)
                self.assertEqual(solid_of(draws.shuffled(want)), want)


class NoSolids(unittest.TestCase):
    def assert_no_solid(self, cubes, why):
        for order in [cubes, cubes[::-1], Draws(32).shuffled(cubes)]:
            error = refused_and_kept(self, NoSolid, solid_of, order)
            self.assertEqual(repr(error.why), repr(why))

    def test_count(self):
        self.assert_no_solid([], ("count", 0))
        for n in range(7, 61):
            self.assert_no_solid(ROW[:n], ("count", n))

    def test_twice(self):
        self.assert_no_solid([(0, 0, 0)] * 2, ("twice", (0, 0, 0)))
        self.assert_no_solid([(0, 0, 0)] * 6, ("twice", (0, 0, 0)))
        self.assert_no_solid(ROW[:3] + [(2, 0, 0)], ("twice", (2, 0, 0)))
        self.assert_no_solid([(FAR, FAR, -FAR)] * 3, ("twice", (FAR, FAR, -FAR)))

    def test_the_least_of_several_that_stand_there_twice(self):
        self.assert_no_solid(ROW[:3] + [(2, 0, 0), (1, 0, 0)], ("twice", (1, 0, 0)))
        self.assert_no_solid([(0, 0, 1), (0, 0, 0), (0, 0, 1), (0, 0, 0), (0, -1, 0), (0, -1, 0)], ("twice", (0, -1, 0)))

    def test_apart(self):
        self.assert_no_solid([(0, 0, 0), (2, 0, 0)], ("apart", (2, 0, 0)))
        self.assert_no_solid([(0, 0, 0), (1, 0, 0), (3, 0, 0), (4, 0, 0)], ("apart", (3, 0, 0)))
        self.assert_no_solid([(0, 0, 0), (0, 5, 0), (1, 0, 0), (2, 9, 0)], ("apart", (0, 5, 0)))
        self.assert_no_solid([(-FAR, 0, 0), (FAR, 0, 0)], ("apart", (FAR, 0, 0)))
        self.assert_no_solid(HOLLOW_6, ("apart", (0, -1, 0)))

    def test_touching_at_an_edge_or_a_corner_alone_is_apart(self):
        for step in itertools.product([-1, 0, 1], repeat=3):
            if sum(abs(n) for n in step) > 1:
                cubes = [(0, 0, 0), step]
                self.assert_no_solid(cubes, ("apart", max(cubes)))

    def test_apart_samples(self):
        tried = 0
        for cubes in [cubes[:n] for cubes in CUBE_SETS for n in range(2, 7)]:
            apart = sorted(set(cubes) - hanging_with_the_least(cubes))
            if apart:
                tried += 1
                self.assert_no_solid(cubes, ("apart", apart[0]))
            else:
                self.assertEqual(solid_of(cubes), sorted(cubes))
        self.assertGreater(tried, 300)

    def test_count_goes_ahead_of_twice_and_apart(self):
        self.assert_no_solid([(0, 0, 0)] * 7, ("count", 7))
        self.assert_no_solid(ROW[:6] + [(3, 0, 0)], ("count", 7))
        self.assert_no_solid(ROW[:12:2] + [(30, 0, 0)], ("count", 7))
        self.assert_no_solid([(0, 0, 0), (5, 5, 5)] * 30, ("count", 60))

    def test_twice_goes_ahead_of_apart(self):
        self.assert_no_solid([(0, 0, 0), (5, 5, 5), (5, 5, 5)], ("twice", (5, 5, 5)))
        self.assert_no_solid([(0, 0, 0), (0, 0, 2), (7, 7, 7), (7, 7, 7)], ("twice", (7, 7, 7)))


class Outward(unittest.TestCase):
    def assert_no_square(self, solid, square):
        refused_and_kept(self, NoSquare, outward, solid, square)

    def test_one_cube(self):
        for cube in [(0, 0, 0), (-3, 2, 8), (FAR, -FAR, FAR)]:
            for unit in UNITS:
                self.assertEqual(repr(outward([cube], plus(middle(cube), unit))), repr(unit))

    def test_each_square_of_solids(self):
        for solid in EVERY_SOLID:
            for square in plain_skin(solid):
                told = outward(solid, square)
                self.assertEqual(repr(told), repr(plain_outward(solid, square)))
                self.assertIn(told, UNITS)
                within = tuple((n - 1) // 2 for n in plus(square, minus(told)))
                beyond = tuple((n - 1) // 2 for n in plus(square, told))
                self.assertEqual((within in solid, beyond in solid), (True, False))

    def test_a_square_between_two_cubes_of_the_solid(self):
        self.assert_no_square([(0, 0, 0), (1, 0, 0)], (2, 1, 1))
        tried = 0
        for solid in EVERY_SOLID:
            for square in {square for cube in solid for square in sides(cube)}:
                if all(cube in solid for cube in between(square)):
                    tried += 1
                    self.assert_no_square(solid, square)
        self.assertGreater(tried, 300)

    def test_squares_that_are_no_part_of_the_skin(self):
        for square in [(3, 1, 0), (1, 1, 4), (-2, 1, 1), (1, 1, -2), (10 ** 30, 1, 1), (1, 1, -10 ** 30)]:
            self.assert_no_square([(0, 0, 0)], square)
        for solid in EVERY_SOLID[::3]:
            skin = plain_skin(solid)
            beside = {plus(square, step) for square in skin for step in itertools.product([-2, 0, 2], repeat=3)}
            for square in sorted(beside - set(skin))[::5]:
                self.assert_no_square(solid, square)

    def test_squares_that_share_an_edge_with_the_skin(self):
        for solid in SMALL_SOLIDS[::4]:
            skin = plain_skin(solid)
            for edge in edges_in(skin[0]):
                for square in [plus(edge, unit) for unit in UNITS]:
                    if sum(n % 2 for n in square) == 2 and square not in skin:
                        self.assert_no_square(solid, square)


class Keeping(unittest.TestCase):
    def test_what_is_handed_in_and_told(self):
        for solid in EVERY_SOLID[::10]:
            ask_and_wreck(self, solid_of, solid)
            ask_and_wreck(self, solid_of, solid[::-1])
            ask_and_wreck(self, outward, solid, plain_skin(solid)[-1])


if __name__ == "__main__":
    unittest.main()
