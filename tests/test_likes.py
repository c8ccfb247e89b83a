"""Points 26 and 27: sheetfold.likes."""

import unittest

from keeping import ask_and_wreck, refused_and_kept
from samples import BIG, PLAIN_TURN, TURNS, is_spot, is_turn_by_kind
from sheet_samples import (
    FAR, MANY, SHEETS, SMALL, Draws, minus, plain_cell_turned, plain_folded, plain_least_sheet, plain_sheet_turned,
    plain_turned, plus, to_nought,
)
from sheetfold.drawings import sheet_read
from sheetfold.errors import NoTurn
from sheetfold.likes import least_sheet, least_solid, same_sheets, same_solids, sheet_turned, solid_turned
from solid_samples import (
    BRIDGE, EVERY_SOLID, FAR_SHIFTS, FIVES, SIXES, SMALL_SOLIDS, middle, odd_edges, plain_skin, shifted_cubes,
)

SHIFTS = [(0, 0, 0), (1, -2, 3), (-5, 0, 0), *FAR_SHIFTS]
SOME_SOLIDS = SMALL_SOLIDS[::3] + FIVES[::25] + SIXES[::150] + [BRIDGE]
SOME_SOLIDS += [shifted_cubes(solid, shift) for solid in SMALL_SOLIDS[::20] + [BRIDGE] for shift in SHIFTS]
SOME_SHEETS = SMALL[::5] + MANY[::3]
CELL_SHIFTS = [(0, 0), (3, -1), (-4, 0), (FAR, -FAR), (-BIG, BIG)]
NO_TURNS = [-1, 8, 9, -8, 10 ** 30, -10 ** 30, True, False, None, "", "0", "3", [], [0], (), (0,), (1, 0)]
NO_TURNS += [0.0, 1.0, 7.0, float("nan"), {}, {0: 0}, {1}, b"1", int, PLAIN_TURN]


def plain_solid_turned(solid, turn, shift=(0, 0, 0)):
    middles = [plain_turned(turn, middle(cube)) for cube in solid]
    return sorted(plus(tuple((n - 1) // 2 for n in spot), shift) for spot in middles)


def plain_least_solid(solid):
    return min(to_nought(plain_solid_turned(solid, turn)) for turn in TURNS)


class SolidTurned(unittest.TestCase):
    def test_by_hand(self):
        turn = ((0, 1, 0), (-1, 0, 0), (0, 0, 1))
        self.assertEqual(solid_turned([(0, 0, 0), (1, 0, 0)], PLAIN_TURN), [(0, 0, 0), (1, 0, 0)])
        self.assertEqual(solid_turned([(0, 0, 0), (1, 0, 0)], turn), [(-1, 0, 0), (-1, 1, 0)])
        self.assertEqual(solid_turned([(0, 0, 0), (1, 0, 0)], turn, (10, 20, 30)), [(9, 20, 30), (9, 21, 30)])

    def test_all_turns_and_shifts(self):
        for number, solid in enumerate(SOME_SOLIDS):
            for turn in TURNS:
                self.assertEqual(repr(solid_turned(solid, turn)), repr(plain_solid_turned(solid, turn)))
                self.assertEqual(solid_turned(solid, turn, None), plain_solid_turned(solid, turn))
                shift = SHIFTS[number % len(SHIFTS)]
                want = plain_solid_turned(solid, turn, shift)
                self.assertEqual(repr(solid_turned(solid, turn, shift)), repr(want))
                self.assertEqual(solid_turned(solid, turn, shift=shift), want)

    def test_two_turns_one_behind_the_other(self):
        for solid in SOME_SOLIDS[::8]:
            for first in TURNS:
                for second in TURNS[::5]:
                    both = tuple(plain_turned(second, unit) for unit in first)
                    self.assertEqual(solid_turned(solid_turned(solid, first), second), solid_turned(solid, both))

    def test_the_skin_is_turned_along(self):
        for solid in SOME_SOLIDS[::4]:
            for turn in TURNS[::3]:
                squares = sorted(plain_turned(turn, square) for square in plain_skin(solid))
                self.assertEqual(plain_skin(solid_turned(solid, turn)), squares)


class LeastSolid(unittest.TestCase):
    def test_by_hand(self):
        self.assertEqual(least_solid([(7, -3, 10 ** 20)]), [(0, 0, 0)])
        self.assertEqual(least_solid([(4, 0, 0), (5, 0, 0)]), [(0, 0, 0), (0, 0, 1)])

    def test_against_all_turns(self):
        for solid in SOME_SOLIDS:
            self.assertEqual(repr(least_solid(solid)), repr(plain_least_solid(solid)))

    def test_the_same_of_all_that_are_the_same(self):
        for solid in SOME_SOLIDS[::3]:
            for turn in TURNS:
                self.assertEqual(least_solid(plain_solid_turned(solid, turn, (3, -9, 2))), least_solid(solid))

    def test_how_many_solids_there_are_by_turns_alone(self):
        counts = [1, 1, 2, 8, 29]
        for n, count in zip(range(1, 6), counts):
            solids = [solid for solid in SMALL_SOLIDS + FIVES if len(solid) == n]
            self.assertEqual(len({tuple(least_solid(solid)) for solid in solids}), count)


class SameSolids(unittest.TestCase):
    def assert_same(self, one, other):
        told = same_solids(one, other)
        self.assertEqual((type(told), len(told), told[0]), (tuple, 3, "same"))
        self.assertTrue(is_turn_by_kind(told[1]) and is_spot(told[2]))
        self.assertEqual(plain_solid_turned(one, told[1], told[2]), other)
        self.assertEqual(solid_turned(one, told[1], told[2]), other)

    def assert_unlike(self, one, other):
        want = ("unlike", plain_least_solid(one), plain_least_solid(other))
        self.assertEqual(repr(same_solids(one, other)), repr(want))

    def test_a_solid_and_itself(self):
        for solid in SOME_SOLIDS:
            self.assert_same(solid, solid)

    def test_all_turns_and_shifts(self):
        for number, solid in enumerate(SOME_SOLIDS):
            for turn in TURNS[number % 4::4]:
                for shift in SHIFTS[number % 2::2]:
                    self.assert_same(solid, plain_solid_turned(solid, turn, shift))

    def test_mirrored_solids_that_are_unlike(self):
        screw = [(0, 0, 0), (0, 0, 1), (0, 1, 1), (1, 1, 1)]
        self.assert_unlike(screw, sorted((-a, b, c) for a, b, c in screw))

    def test_mirrored_solids(self):
        kinds = []
        for solid in SOME_SOLIDS:
            mirrored = sorted((-a, b, c) for a, b, c in solid)
            alike = plain_least_solid(solid) == plain_least_solid(mirrored)
            kinds.append(alike)
            (self.assert_same if alike else self.assert_unlike)(solid, mirrored)
        self.assertGreater(kinds.count(True), 10)
        self.assertGreater(kinds.count(False), 10)

    def test_unlike_numbers_of_cubes(self):
        row = [(0, 0, k) for k in range(6)]
        for n in range(1, 7):
            for m in range(1, 7):
                (self.assert_same if n == m else self.assert_unlike)(row[:n], row[:m])

    def test_every_pair_of_some(self):
        for one in SMALL_SOLIDS[::7]:
            for other in SMALL_SOLIDS[::5] + FIVES[::60]:
                alike = plain_least_solid(one) == plain_least_solid(other)
                (self.assert_same if alike else self.assert_unlike)(one, other)


class SheetTurned(unittest.TestCase):
    SHEET = ([(0, 0), (0, 1), (1, 0)], [(0, 1, 1), (0, 2, 0)])

    def test_by_hand(self):
        self.assertEqual(sheet_turned(self.SHEET, 0), self.SHEET)
        self.assertEqual(sheet_turned(self.SHEET, 1), ([(-1, 0), (0, 0), (0, 1)], [(0, 1, 1), (1, 2, 0)]))
        self.assertEqual(sheet_turned(self.SHEET, 4), ([(-1, 0), (0, 0), (0, 1)], [(0, 1, 0), (1, 2, -1)]))
        self.assertEqual(sheet_turned(self.SHEET, 5, (5, 7)), ([(5, 7), (5, 8), (6, 7)], [(0, 1, 0), (0, 2, -1)]))

    def test_all_numbers(self):
        for sheet in SHEETS:
            for k in range(8):
                want = repr(plain_sheet_turned(sheet, k))
                self.assertEqual(repr(sheet_turned(sheet, k)), want)
                self.assertEqual(repr(sheet_turned(sheet, k, None)), want)

    def test_with_a_shift(self):
        for sheet in SOME_SHEETS:
            for k in range(8):
                for shift in CELL_SHIFTS:
                    want = repr(plain_sheet_turned(sheet, k, shift))
                    self.assertEqual(repr(sheet_turned(sheet, k, shift)), want)
                    self.assertEqual(repr(sheet_turned(sheet, k, shift=shift)), want)

    def test_turned_over_the_bends_get_the_other_sign(self):
        for sheet in SOME_SHEETS:
            bends = sorted(bend for i, j, bend in sheet[1])
            for k in range(8):
                want = bends if k < 4 else [-bend for bend in reversed(bends)]
                self.assertEqual(sorted(bend for i, j, bend in sheet_turned(sheet, k)[1]), want)

    def test_four_times_by_one_and_twice_over(self):
        for sheet in SOME_SHEETS:
            turned = sheet
            for _ in range(4):
                turned = sheet_turned(turned, 1)
            self.assertEqual(turned, sheet)
            for k in range(4, 8):
                self.assertEqual(sheet_turned(sheet_turned(sheet, k), k), sheet)

    def test_no_turns(self):
        for thing in NO_TURNS:
            refused_and_kept(self, NoTurn, sheet_turned, self.SHEET, thing)
            refused_and_kept(self, NoTurn, sheet_turned, self.SHEET, thing, (1, 2))
            refused_and_kept(self, NoTurn, sheet_turned, self.SHEET, thing, None)
        with self.assertRaises(NoTurn):
            sheet_turned(self.SHEET, 10 ** 5000)


class FoldedAlike(unittest.TestCase):
    SHEETS = SMALL[::4] + MANY[::2] + [sheet_read("..#..../..^..../#^#^#^#/..^..../..#....")]

    def test_closed_and_open_ring_and_clash_stay_so(self):
        kinds = []
        for sheet in self.SHEETS:
            kinds.append(self.kind_of(sheet))
            for k in range(8):
                self.assertEqual(self.kind_of(sheet_turned(sheet, k)), kinds[-1])
        self.assertEqual(set(kinds), {"ring", "clash", "open", "closed"})

    def kind_of(self, sheet):
        told = plain_folded(sheet)
        if told[0] != "folded":
            return told[0]
        return "open" if odd_edges([pose[0] for pose in told[1]]) else "closed"

    def test_the_squares_are_moved_by_one_move(self):
        for sheet in self.SHEETS[::3]:
            told = plain_folded(sheet)
            if told[0] == "folded":
                for k in range(8):
                    self.assert_one_move(sheet, [pose[0] for pose in told[1]], k)

    def assert_one_move(self, sheet, squares, k):
        anew = sheet_turned(sheet, k)
        there = [pose[0] for pose in plain_folded(anew)[1]]
        places = [anew[0].index(plain_cell_turned(cell, k)) for cell in sheet[0]]
        shifts = []
        for turn in TURNS:
            turned = [plain_turned(turn, square) for square in squares]
            shifts.append({plus(there[at], minus(square)) for at, square in zip(places, turned)})
        self.assertIn(1, [len(found) for found in shifts])


class LeastSheet(unittest.TestCase):
    def test_by_hand(self):
        self.assertEqual(least_sheet(([(9, -9)], [])), ([(0, 0)], []))
        self.assertEqual(least_sheet(([(4, 4), (5, 4)], [(0, 1, 1)])), ([(0, 0), (0, 1)], [(0, 1, -1)]))

    def test_against_all_eight(self):
        for sheet in SHEETS:
            self.assertEqual(repr(least_sheet(sheet)), repr(plain_least_sheet(sheet)))

    def test_the_same_of_all_that_are_the_same(self):
        for sheet in SOME_SHEETS:
            for k in range(8):
                self.assertEqual(least_sheet(plain_sheet_turned(sheet, k, (-8, 5))), least_sheet(sheet))


class SameSheets(unittest.TestCase):
    def assert_same(self, one, other):
        told = same_sheets(one, other)
        self.assertEqual((type(told), len(told), told[0]), (tuple, 3, "same"))
        self.assertEqual((type(told[1]), type(told[2]), len(told[2])), (int, tuple, 2))
        self.assertTrue(0 <= told[1] < 8 and all(type(n) is int for n in told[2]))
        self.assertEqual(plain_sheet_turned(one, told[1], told[2]), other)
        self.assertEqual(sheet_turned(one, told[1], told[2]), other)

    def assert_unlike(self, one, other):
        want = ("unlike", plain_least_sheet(one), plain_least_sheet(other))
        self.assertEqual(repr(same_sheets(one, other)), repr(want))

    def test_a_sheet_and_itself(self):
        for sheet in SHEETS:
            self.assert_same(sheet, sheet)

    def test_all_numbers_and_shifts(self):
        for sheet in SOME_SHEETS:
            for k in range(8):
                for shift in CELL_SHIFTS[k % 2::2]:
                    self.assert_same(sheet, plain_sheet_turned(sheet, k, shift))

    def test_turned_over_without_the_other_sign(self):
        self.assert_same(sheet_read("#^#"), sheet_read("#v#"))
        self.assert_unlike(sheet_read("#^#^#"), sheet_read("#^#v#"))
        one = sheet_read("#^#../..+../..#+#")
        self.assert_unlike(one, (one[0], [(i, j, -bend) for i, j, bend in one[1]]))

    def test_unlike_in_bends_or_joins_or_cells_alone(self):
        self.assert_unlike(sheet_read("#+#"), sheet_read("#^#"))
        self.assert_unlike(sheet_read("#+#/+.+/#+#"), sheet_read("#+#/+../#+#"))
        self.assert_unlike(sheet_read("#+#+#"), sheet_read("#+#/+../#.."))
        self.assert_unlike(sheet_read("#"), sheet_read("#+#"))
        self.assert_unlike(sheet_read("#+#+#"), sheet_read("#+#"))

    def test_every_pair_of_some(self):
        kinds = []
        for one in SMALL[::30]:
            for other in SMALL[::15] + [plain_sheet_turned(one, 6, (2, 2))]:
                kinds.append(plain_least_sheet(one) == plain_least_sheet(other))
                (self.assert_same if kinds[-1] else self.assert_unlike)(one, other)
        self.assertGreater(kinds.count(True), 20)
        self.assertGreater(kinds.count(False), 20)


class Keeping(unittest.TestCase):
    def test_solids(self):
        draws = Draws(51)
        for solid in EVERY_SOLID[::9]:
            other = draws.one_of(EVERY_SOLID)
            for turn in [PLAIN_TURN, draws.one_of(TURNS)]:
                ask_and_wreck(self, solid_turned, solid, turn)
                ask_and_wreck(self, solid_turned, solid, turn, (2, 0, -2))
            ask_and_wreck(self, least_solid, solid)
            ask_and_wreck(self, same_solids, solid, other)
            ask_and_wreck(self, same_solids, solid, solid)
        ask_and_wreck(self, least_solid, [(0, 0, 0)])

    def test_sheets(self):
        draws = Draws(52)
        for sheet in SMALL[::30] + MANY[::9]:
            for k in range(8):
                ask_and_wreck(self, sheet_turned, sheet, k)
                ask_and_wreck(self, sheet_turned, sheet, k, (0, 0))
            ask_and_wreck(self, least_sheet, sheet)
            ask_and_wreck(self, least_sheet, plain_least_sheet(sheet))
            ask_and_wreck(self, same_sheets, sheet, draws.one_of(SHEETS))
            ask_and_wreck(self, same_sheets, sheet, sheet)


if __name__ == "__main__":
    unittest.main()
