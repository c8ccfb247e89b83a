"""Points 12 and 17 to 19: sheetfold.squares."""

import itertools
import unittest

from keeping import ask_and_wreck
from samples import BIG, UNITS, is_spot
from sheet_samples import Draws, plus
from sheetfold.drawings import sheet_read
from sheetfold.folding import folded
from sheetfold.squares import axis_of, closing, crossings, cubes_at, edges_of, skin_of, squares_at
from solid_samples import (
    BRIDGE, CUBE_SETS, FAR, HOLLOW_6, HOLLOW_26, SMALL_SOLIDS, between, edges_in, middle, odd_edges, plain_skin,
    shifted_cubes, sides,
)

NEAR = range(-3, 4)
FAR_NUMBERS = [BIG, BIG - 1, -BIG, 1 - BIG]
SPOTS = list(itertools.product(NEAR, repeat=3)) + list(itertools.product(FAR_NUMBERS + [0, 5], repeat=3))
SQUARES = [spot for spot in SPOTS if sum(n % 2 for n in spot) == 2]
EDGES = [spot for spot in SPOTS if sum(n % 2 for n in spot) == 1]
FAR_SHIFTS = [(FAR, -FAR, FAR), (-FAR, FAR - 7, 0)]


def is_rising(things):
    return all(one < other for one, other in zip(things, things[1:]))


class Squares(unittest.TestCase):
    def test_axis_of_by_hand(self):
        self.assertEqual([axis_of(s) for s in [(0, 1, 1), (1, 0, 1), (1, 1, 0)]], [0, 1, 2])
        self.assertEqual([axis_of(s) for s in [(-4, -3, 7), (-1, 8, -5), (3, -9, BIG)]], [0, 1, 2])

    def test_axis_of_all(self):
        self.assertEqual({axis_of(square) for square in SQUARES}, {0, 1, 2})
        for square in SQUARES:
            told = axis_of(square)
            self.assertIs(type(told), int)
            self.assertEqual(square[told] % 2, 0)

    def test_edges_of_by_hand(self):
        self.assertEqual(edges_of((1, 1, 0)), [(0, 1, 0), (1, 0, 0), (1, 2, 0), (2, 1, 0)])
        self.assertEqual(edges_of((-2, 3, 5)), [(-2, 2, 5), (-2, 3, 4), (-2, 3, 6), (-2, 4, 5)])
        self.assertEqual(edges_of((1, 0, -1)), [(0, 0, -1), (1, 0, -2), (1, 0, 0), (2, 0, -1)])

    def test_edges_of_all(self):
        for square in SQUARES:
            told = edges_of(square)
            self.assertEqual(repr(told), repr(edges_in(square)))
            self.assertEqual(len(told), 4)
            self.assertTrue(is_rising(told))

    def test_the_squares_at_each_edge_have_this_one_among_them(self):
        for square in SQUARES:
            for edge in edges_of(square):
                self.assertIn(square, squares_at(edge))

    def test_squares_at_by_hand(self):
        self.assertEqual(squares_at((0, 0, 1)), [(-1, 0, 1), (0, -1, 1), (0, 1, 1), (1, 0, 1)])
        self.assertEqual(squares_at((3, 2, -4)), [(3, 1, -4), (3, 2, -5), (3, 2, -3), (3, 3, -4)])

    def test_squares_at_all(self):
        for edge in EDGES:
            told = squares_at(edge)
            want = sorted(spot for spot in [plus(edge, unit) for unit in UNITS] if sum(n % 2 for n in spot) == 2)
            self.assertEqual(repr(told), repr(want))
            self.assertEqual(len(told), 4)
            self.assertTrue(is_rising(told))
            for square in told:
                self.assertIn(edge, edges_of(square))

    def test_cubes_at_by_hand(self):
        self.assertEqual(cubes_at((1, 1, 0)), ((0, 0, -1), (0, 0, 0)))
        self.assertEqual(cubes_at((2, 1, 1)), ((0, 0, 0), (1, 0, 0)))
        self.assertEqual(cubes_at((-1, -2, -3)), ((-1, -2, -2), (-1, -1, -2)))

    def test_cubes_at_all(self):
        for square in SQUARES:
            told = cubes_at(square)
            self.assertEqual(repr(told), repr(between(square)))
            lower, upper = told
            self.assertTrue(is_spot(lower) and is_spot(upper))
            unit = tuple(1 if k == axis_of(square) else 0 for k in range(3))
            self.assertEqual(plus(middle(lower), unit), square)
            self.assertEqual(middle(upper), plus(square, unit))


class SkinOf(unittest.TestCase):
    def test_no_cubes(self):
        self.assertEqual(repr(skin_of([])), "[]")

    def test_one_cube(self):
        want = [(0, 1, 1), (1, 0, 1), (1, 1, 0), (1, 1, 2), (1, 2, 1), (2, 1, 1)]
        self.assertEqual(skin_of([(0, 0, 0)]), want)
        for cube in [(-1, 0, 0), (3, -4, 5), (FAR, -FAR, FAR), (-FAR, -FAR, 1)]:
            self.assertEqual(repr(skin_of([cube])), repr(sorted(sides(cube))))

    def test_cubes_that_share_a_side(self):
        told = skin_of([(1, 0, 0), (0, 0, 0)])
        self.assertEqual(len(told), 10)
        self.assertNotIn((2, 1, 1), told)
        self.assertEqual(len(skin_of(list(itertools.product([0, 1], repeat=3)))), 24)

    def test_cubes_that_touch_at_an_edge_or_a_corner_alone_or_are_far_apart(self):
        for other in [(1, 1, 0), (1, 1, 1), (-1, 0, 1), (5, 0, 0), (FAR, -FAR, FAR)]:
            told = skin_of([other, (0, 0, 0)])
            self.assertEqual(told, sorted(sides((0, 0, 0)) + sides(other)))

    def test_hollow_ones(self):
        self.assertEqual((len(skin_of(HOLLOW_6)), skin_of(HOLLOW_6)), (36, plain_skin(HOLLOW_6)))

    def test_twenty(self):
        row = [(x, 0, 0) for x in range(20)]
        self.assertEqual(skin_of(row), plain_skin(row))
        self.assertEqual(len(skin_of(row)), 82)

    def test_samples_in_any_order(self):
        draws = Draws(22)
        for cubes in CUBE_SETS:
            want = plain_skin(cubes)
            self.assertEqual(repr(skin_of(cubes)), repr(want))
            self.assertEqual(skin_of(draws.shuffled(cubes)), want)
            self.assertTrue(is_rising(skin_of(cubes)))
            for shift in FAR_SHIFTS:
                self.assertEqual(skin_of(shifted_cubes(cubes, shift)), [plus(s, plus(shift, shift)) for s in want])


class Closed(unittest.TestCase):
    def assert_closes(self, squares, cubes):
        self.assertEqual(repr(closing(squares)), repr(("closed", sorted(cubes))))

    def test_no_squares(self):
        self.assertEqual(repr(closing([])), "('closed', [])")

    def test_by_hand(self):
        self.assert_closes([(1, 1, 0), (1, 0, 1), (2, 1, 1), (1, 2, 1), (1, 1, 2), (0, 1, 1)], [(0, 0, 0)])

    def test_skins_in_any_order(self):
        draws = Draws(23)
        tried = 0
        for cubes in CUBE_SETS + SMALL_SOLIDS + [BRIDGE]:
            squares = plain_skin(cubes)
            if len(squares) <= 60:
                tried += 1
                self.assert_closes(squares, cubes)
                self.assert_closes(squares[::-1], cubes)
                self.assert_closes(draws.shuffled(squares), cubes)
                told = closing(squares)[1]
                self.assertTrue(is_rising(told))
                self.assertEqual(skin_of(told), squares)
        self.assertGreater(tried, 150)

    def test_several_parts_near_and_far(self):
        for other in [(1, 1, 0), (1, 1, 1), (0, 2, 0), (2, 0, 0), (0, 0, 9), (FAR, 0, -FAR), (FAR, 0, 0), (0, 0, -FAR)]:
            cubes = [(0, 0, 0), other, plus(other, (0, 1, 0))]
            self.assert_closes(plain_skin(cubes)[::-1], cubes)

    def test_parts_in_one_column(self):
        for unit in [(1, 0, 0), (0, 1, 0), (0, 0, 1)]:
            for places in [[0, 2], [0, 2, 4], [0, 1, 3], [-5, -2, 0, 1, 7], [-FAR, 0, FAR], [FAR - 1, FAR, -FAR]]:
                cubes = [tuple(n * place for n in unit) for place in places]
                self.assert_closes(plain_skin(cubes), cubes)

    def test_a_hollow_within(self):
        for cubes in [HOLLOW_6, HOLLOW_26]:
            for shift in [(0, 0, 0), (-4, 1, 7)] + [(FAR - 1, 1 - FAR, FAR - 1), (1 - FAR, 0, 0)]:
                moved = shifted_cubes(cubes, shift)
                self.assertEqual(len(plain_skin(moved)), {6: 36, 26: 60}[len(moved)])
                self.assert_closes(plain_skin(moved), moved)
                self.assertNotIn(shift, closing(plain_skin(moved))[1])

    def test_without_a_hollow(self):
        full = HOLLOW_26 + [(0, 0, 0)]
        self.assert_closes(plain_skin(full), full)

    def test_a_cube_within_a_hollow_is_not_told_apart_by_its_neighbours(self):
        inner = [(0, 0, 0)]
        squares = [square for square in plain_skin(HOLLOW_26) if square not in plain_skin(inner)]
        self.assert_closes(squares, HOLLOW_26 + inner)

    def test_squares_as_far_off_as_numbers_go(self):
        for shift in [(BIG, -BIG, BIG), (-BIG, BIG - 2, 0)]:
            for cubes in SMALL_SOLIDS[::8]:
                squares = [plus(square, shift) for square in plain_skin(cubes)]
                self.assert_closes(squares, shifted_cubes(cubes, tuple(n // 2 for n in shift)))

    def test_a_folded_cube(self):
        kind, poses = folded(sheet_read("..#..../..^..../#^#^#^#/..^..../..#...."))
        self.assert_closes([pose[0] for pose in poses], [(0, 0, 0)])
        kind, poses = folded(sheet_read("..#..../..v..../#v#v#v#/..v..../..#...."))
        self.assert_closes([pose[0] for pose in poses], [(0, 0, -1)])


class Open(unittest.TestCase):
    def assert_open(self, squares):
        told = closing(squares)
        self.assertEqual(repr(told), repr(("open", odd_edges(squares)[0])))

    def test_by_hand(self):
        self.assertEqual(closing([(1, 1, 0)]), ("open", (0, 1, 0)))
        self.assertEqual(closing([(3, 1, 0), (1, 1, 0)]), ("open", (0, 1, 0)))
        self.assertEqual(closing([(0, 1, 1), (1, 1, 0)]), ("open", (0, 0, 1)))

    def test_three_squares_at_an_edge(self):
        squares = [(-1, 0, 1), (0, 1, 1), (1, 0, 1)]
        self.assertIn((0, 0, 1), odd_edges(squares))
        self.assert_open(squares)

    def test_one_square(self):
        for square in SQUARES:
            self.assert_open([square])

    def test_skins_less_one_square(self):
        draws = Draws(24)
        for cubes in CUBE_SETS[::2] + SMALL_SOLIDS[::3] + [HOLLOW_6, HOLLOW_26]:
            squares = plain_skin(cubes)
            if len(squares) <= 60:
                for k in range(0, len(squares), 3):
                    left = draws.shuffled(squares[:k] + squares[k + 1:])
                    self.assert_open(left)
                    self.assert_open(left[1:])

    def test_skins_and_one_square_more(self):
        for cubes in SMALL_SOLIDS[::5]:
            squares = plain_skin(cubes)
            for square in SQUARES[::25]:
                if square not in squares:
                    self.assert_open([square] + squares)
                    self.assert_open(squares + [square])

    def test_many_squares_anyhow(self):
        draws = Draws(25)
        near = [square for square in SQUARES if max(square) < 4 and min(square) > -4]
        for n in range(1, 61):
            squares = draws.shuffled(near)[:n]
            if odd_edges(squares):
                self.assert_open(squares)
            far = [plus(square, (BIG, -BIG, BIG)) for square in squares]
            self.assertEqual(closing(far)[0], closing(squares)[0])

    def test_a_strip_round_that_lacks_its_lids(self):
        self.assert_open([(0, 1, 1), (1, 0, 1), (2, 1, 1), (1, 2, 1)])


class Crossings(unittest.TestCase):
    def test_by_hand(self):
        squares = [(0, 1, 1), (2, 1, 1), (6, 1, 1), (2, 3, 1), (1, 2, 1), (1, 1, 2)]
        self.assertEqual([crossings(squares, (x, 0, 0), 0) for x in range(-2, 5)], [3, 3, 2, 1, 1, 0, 0])
        self.assertEqual([crossings(squares, (0, y, 0), 1) for y in range(-1, 3)], [1, 1, 0, 0])
        self.assertEqual([crossings(squares, (0, 0, z), 2) for z in range(-1, 3)], [1, 1, 0, 0])
        self.assertEqual([crossings(squares, (0, 1, 0), axis) for axis in range(3)], [1, 0, 0])
        self.assertEqual(crossings([], (0, 0, 0), 1), 0)

    def test_odd_just_of_the_cubes_within(self):
        for cubes in CUBE_SETS[::3] + SMALL_SOLIDS[::6] + [HOLLOW_6, HOLLOW_26, BRIDGE]:
            squares = plain_skin(cubes)
            beside = {plus(cube, unit) for cube in cubes for unit in UNITS}
            for cube in sorted(beside | set(cubes)):
                for axis in range(3):
                    told = crossings(squares, cube, axis)
                    self.assertIs(type(told), int)
                    self.assertEqual(told % 2 == 1, cube in cubes)

    def test_against_a_plain_count(self):
        draws = Draws(26)
        near = [square for square in SQUARES if max(square) < 4 and min(square) > -4]
        for n in range(0, 61, 4):
            squares = draws.shuffled(near)[:n]
            for cube in itertools.product([-2, -1, 0, 1], repeat=3):
                for axis in range(3):
                    ahead = [tuple(middle(cube)[k] + (2 * step + 1 if k == axis else 0) for k in range(3))
                             for step in range(10)]
                    self.assertEqual(crossings(squares, cube, axis), sum(spot in squares for spot in ahead))

    def test_far(self):
        for shift in [(FAR, -FAR, FAR), (-FAR, FAR, 0)]:
            cubes = shifted_cubes(HOLLOW_6, shift)
            squares = plain_skin(cubes)
            for axis in range(3):
                self.assertEqual(crossings(squares, shift, axis) % 2, 0)
                self.assertEqual(crossings(squares, (0, 0, 0), axis), 0)
                for cube in cubes:
                    self.assertEqual(crossings(squares, cube, axis) % 2, 1)
                below = tuple(-FAR if k == axis else n for k, n in enumerate(shift))
                if shift[axis] == FAR:
                    self.assertEqual(crossings(squares, below, axis), 4)


class Keeping(unittest.TestCase):
    def test_lists_that_are_told(self):
        for square in SQUARES[::20]:
            ask_and_wreck(self, edges_of, square)
            ask_and_wreck(self, cubes_at, square)
        for edge in EDGES[::20]:
            ask_and_wreck(self, squares_at, edge)

    def test_lists_that_are_handed_in(self):
        for cubes in CUBE_SETS[::6] + [[], HOLLOW_6]:
            squares = plain_skin(cubes)
            ask_and_wreck(self, skin_of, cubes)
            ask_and_wreck(self, skin_of, sorted(cubes))
            ask_and_wreck(self, closing, squares)
            ask_and_wreck(self, closing, squares[::-1])
            ask_and_wreck(self, closing, squares[1:])
            ask_and_wreck(self, crossings, squares, (0, 0, 0), 1)


if __name__ == "__main__":
    unittest.main()
