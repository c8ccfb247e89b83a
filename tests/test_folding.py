"""Points 14 to 16: sheetfold.folding."""

import itertools
import unittest

from keeping import ask_and_wreck, refused_and_kept
from samples import BIG, is_pose
from sheet_samples import (
    MANY, POSES, SHEETS, SMALL, START, Draws, minus, plain_bend, plain_folded, plain_is_ring, plain_poses, plain_walked,
    plain_way, plus, quick_led,
)
from sheetfold.drawings import seen, sheet_read
from sheetfold.errors import NoWay
from sheetfold.folding import folded, is_ring, walked
from sheetfold.moves import move_between, pose_moved

X, Y, Z = (1, 0, 0), (0, 1, 0), (0, 0, 1)
ELSEWHERE = [
    ((5, 0, -7), Z, X),
    ((0, 1, 1), Y, Z),
    ((3, -5, 2), (0, -1, 0), X),
    ((BIG, BIG - 1, 1 - BIG), Z, (0, -1, 0)),
]
SAMPLES = SMALL[::3] + MANY
CUBE = "..#..../..^..../#^#^#^#/..^..../..#...."
SQUARE = "#{}#/{}.{}/#{}#"


def joined_pairs(sheet):
    return [(i, j) for a, b, bend in sheet[1] for i, j in [(a, b), (b, a)]]


def walks(draws, sheet, length):
    """A list of cells, each joined with the next one."""
    numbers = [draws.below(len(sheet[0]))]
    while len(numbers) < length and len(sheet[0]) > 1:
        numbers.append(draws.one_of([j for i, j in joined_pairs(sheet) if i == numbers[-1]]))
    return numbers


class FoldedByHand(unittest.TestCase):
    def test_one_cell(self):
        self.assertEqual(folded(sheet_read("#")), ("folded", [START]))

    def test_two_cells(self):
        self.assertEqual(folded(sheet_read("#+#")), ("folded", [START, ((3, 1, 0), X, Y)]))
        self.assertEqual(folded(sheet_read("#^#")), ("folded", [START, ((2, 1, 1), Z, Y)]))
        self.assertEqual(folded(sheet_read("#/v/#")), ("folded", [START, ((1, 2, -1), X, (0, 0, -1))]))

    def test_a_cube(self):
        squares = [(1, 1, 0), (1, 0, 1), (2, 1, 1), (1, 2, 1), (1, 1, 2), (0, 1, 1)]
        rights = [X, Z, Z, Z, (-1, 0, 0), (0, 0, -1)]
        ups = [Y, X, Y, (-1, 0, 0), Y, Y]
        self.assertEqual(folded(sheet_read(CUBE)), ("folded", list(zip(squares, rights, ups))))

    def test_flat_and_pleated_squares_of_four(self):
        for signs in ["++++", "^++^", "+^^+", "v++v", "+vv+"]:
            self.assertEqual(folded(sheet_read(SQUARE.format(*signs)))[0], "folded", signs)

    def test_rings(self):
        for signs in ["^+++", "+^++", "++^+", "+++v", "^++v", "+^v+", "^^^^", "vvvv", "^^++", "^vv^"]:
            kind, numbers = folded(sheet_read(SQUARE.format(*signs)))
            self.assertEqual((kind, sorted(numbers)), ("ring", [0, 1, 2, 3]), signs)

    def test_clashes(self):
        self.assertEqual(folded(sheet_read("#^#^#^#^#")), ("clash", 0, 4))
        self.assertEqual(folded(sheet_read("#v#v#v#v#")), ("clash", 0, 4))
        self.assertEqual(folded(sheet_read("#+#^#^#^#^#")), ("clash", 1, 5))
        self.assertEqual(folded(sheet_read("#^#^#^#^#^#^#^#^#")), ("clash", 0, 4))

    def test_the_clash_of_the_least_j_is_told_whatever_its_i(self):
        # Round a row of five cells 0 and 8 come together, round a column of five 1 and 5; cell 7 comes onto these too.
        rows = ["..#......", "..^......"] * 2 + ["#^#^#^#^#"] + ["..^......", "..#......"] * 2
        self.assertEqual(folded(seen(rows)), ("clash", 1, 5))

    def test_a_ring_goes_ahead_of_a_clash(self):
        behind = ["#^#^#^#^#+#", "........+.^", "........#+#"]
        ahead = ["#+#........", "+.^........", "#+#^#^#^#^#"]
        for rows in [behind, ahead]:
            sheet = seen(rows)
            squares = [pose[0] for pose in plain_poses(sheet, 0, START)]
            self.assertLess(len(set(squares)), len(squares))
            kind, numbers = folded(sheet)
            self.assertEqual(kind, "ring")
            self.assertTrue(plain_is_ring(sheet, numbers))


class FoldedSamples(unittest.TestCase):
    def assert_folded(self, sheet, told, want):
        self.assertIs(type(told), tuple)
        if want[0] == "ring":
            self.assertEqual((len(told), told[0], type(told[1])), (2, "ring", list))
            self.assertTrue(all(type(k) is int for k in told[1]))
            self.assertTrue(plain_is_ring(sheet, told[1]))
            self.assertIs(is_ring(sheet, told[1]), True)
        else:
            self.assertEqual(repr(told), repr(want))

    def test_from_cell_0(self):
        for sheet in SHEETS:
            self.assert_folded(sheet, folded(sheet), plain_folded(sheet))

    def test_all_three_kinds_are_among_them(self):
        kinds = [plain_folded(sheet)[0] for sheet in MANY]
        for kind in ["folded", "ring", "clash"]:
            self.assertGreater(kinds.count(kind), 20)

    def test_each_join_leads_from_pose_to_pose(self):
        for sheet in SHEETS:
            told = folded(sheet)
            if told[0] == "folded":
                poses = told[1]
                self.assertEqual(len(poses), len(sheet[0]))
                self.assertTrue(all(is_pose(pose) for pose in poses))
                for i, j in joined_pairs(sheet):
                    bend, way = plain_bend(sheet, i, j), plain_way(sheet, i, j)
                    self.assertEqual(quick_led(bend, poses[i], way), poses[j])

    def test_from_each_other_cell_and_pose(self):
        for number, sheet in enumerate(SAMPLES):
            for first in range(0, len(sheet[0]), 1 + len(sheet[0]) // 4):
                pose = (ELSEWHERE + POSES)[(number + first) % 28]
                self.assert_folded(sheet, folded(sheet, first, pose), plain_folded(sheet, first, pose))
                self.assert_folded(sheet, folded(sheet, first=first, pose=pose), plain_folded(sheet, first, pose))

    def test_with_the_cell_alone_told(self):
        for sheet in SAMPLES:
            first = len(sheet[0]) - 1
            self.assert_folded(sheet, folded(sheet, first), plain_folded(sheet, first, START))
            self.assert_folded(sheet, folded(sheet, first, None), plain_folded(sheet, first, START))
            self.assert_folded(sheet, folded(sheet, first=first), plain_folded(sheet, first, START))

    def test_with_the_pose_alone_told(self):
        for sheet in SAMPLES:
            for pose in ELSEWHERE:
                self.assert_folded(sheet, folded(sheet, pose=pose), plain_folded(sheet, 0, pose))

    def test_the_cell_told_has_the_pose_told(self):
        for sheet in SAMPLES:
            told = folded(sheet, len(sheet[0]) // 2, ELSEWHERE[0])
            if told[0] == "folded":
                self.assertEqual(told[1][len(sheet[0]) // 2], ELSEWHERE[0])

    def test_all_poses_are_moved_by_one_move(self):
        for sheet in SAMPLES:
            told = folded(sheet)
            for pose in ELSEWHERE:
                other = folded(sheet, len(sheet[0]) - 1, pose)
                self.assertEqual(other[0], told[0])
                if told[0] == "folded":
                    move = move_between(told[1][0], other[1][0])
                    self.assertEqual([pose_moved(move, one) for one in told[1]], other[1])
                if told[0] == "clash":
                    self.assertEqual(other, told)


class Walked(unittest.TestCase):
    def test_by_hand(self):
        sheet = sheet_read("#^#+#")
        self.assertEqual(walked(sheet, [0], START), START)
        self.assertEqual(walked(sheet, [0, 1], START), ((2, 1, 1), Z, Y))
        self.assertEqual(walked(sheet, [0, 1, 2], START), ((2, 1, 3), Z, Y))
        self.assertEqual(walked(sheet, [2, 1], START), ((-1, 1, 0), X, Y))
        self.assertEqual(walked(sheet, [0, 1, 0], START), START)

    def test_one_cell_is_where_it_begins(self):
        for sheet in SAMPLES:
            for pose in ELSEWHERE:
                self.assertEqual(walked(sheet, [len(sheet[0]) - 1], pose), pose)

    def test_samples(self):
        draws = Draws(5)
        for sheet in SAMPLES:
            for pose in [START] + ELSEWHERE:
                numbers = walks(draws, sheet, 1 + draws.below(60))
                told = walked(sheet, numbers, pose)
                self.assertTrue(is_pose(told))
                self.assertEqual(told, plain_walked(sheet, numbers, pose))

    def test_along_what_is_folded_it_comes_to_the_poses_told(self):
        draws = Draws(6)
        for sheet in SAMPLES:
            told = folded(sheet)
            if told[0] == "folded":
                numbers = walks(draws, sheet, 40)
                self.assertEqual(walked(sheet, numbers, told[1][numbers[0]]), told[1][numbers[-1]])

    def test_there_and_back_again(self):
        draws = Draws(8)
        for sheet in SAMPLES:
            numbers = walks(draws, sheet, 12)
            self.assertEqual(walked(sheet, numbers + numbers[-2::-1], ELSEWHERE[1]), ELSEWHERE[1])


class NoWays(unittest.TestCase):
    def assert_no_way(self, sheet, numbers, at):
        error = refused_and_kept(self, NoWay, walked, sheet, numbers, START)
        self.assertEqual((type(error.at), error.at), (int, at))

    def test_by_hand(self):
        sheet = sheet_read("#^#+#")
        self.assert_no_way(sheet, [0, 2], 0)
        self.assert_no_way(sheet, [0, 1, 2, 0], 2)
        self.assert_no_way(sheet, [0, 1, 0, 2, 0, 2], 2)

    def test_a_cell_twice_in_a_row(self):
        sheet = sheet_read("#^#+#")
        self.assert_no_way(sheet, [1, 1], 0)
        self.assert_no_way(sheet, [0, 1, 1, 2], 1)
        self.assert_no_way(sheet, [0, 1, 2, 2], 2)
        self.assert_no_way(sheet_read("#"), [0, 0], 0)

    def test_neighbours_that_are_slit(self):
        sheet = sheet_read("#+#/+.+/#.#")
        self.assertEqual(walked(sheet, [0, 1, 3, 2], START)[0], (3, 1, 0))
        self.assert_no_way(sheet, [0, 2], 0)
        self.assert_no_way(sheet, [1, 3, 2, 0, 1], 2)

    def test_samples_with_one_wrong_step(self):
        draws = Draws(9)
        for sheet in [sheet for sheet in SAMPLES if len(sheet[0]) > 1]:
            for _ in range(4):
                numbers = walks(draws, sheet, 1 + draws.below(20))
                pairs = joined_pairs(sheet)
                strange = [k for k in range(len(sheet[0])) if (numbers[-1], k) not in pairs]
                tail = walks(draws, sheet, 5)
                self.assert_no_way(sheet, numbers + [draws.one_of(strange)] + tail, len(numbers) - 1)


class IsRing(unittest.TestCase):
    BENT = sheet_read(SQUARE.format(*"^+++"))
    FLAT = sheet_read(SQUARE.format(*"++++"))

    def test_by_hand(self):
        for numbers in [[0, 1, 3, 2], [1, 3, 2, 0], [2, 3, 1, 0], [3, 1, 0, 2], [0, 1, 0, 1, 3, 2]]:
            self.assertIs(is_ring(self.BENT, numbers), True, numbers)
            self.assertIs(is_ring(self.FLAT, numbers), False, numbers)

    def test_the_empty_list(self):
        for sheet in SHEETS:
            self.assertIs(is_ring(sheet, []), False)

    def test_one_number(self):
        for sheet in SAMPLES:
            for k in [*range(-3, 30), BIG, -BIG]:
                self.assertIs(is_ring(sheet, [k]), False)

    def test_numbers_that_are_no_cells(self):
        for strange in [-1, -2, -3, -4, 4, 5, 26, BIG, -BIG, 10 ** 5000]:
            for k in range(4):
                numbers = [0, 1, 3, 2]
                numbers[k] = strange
                self.assertIs(is_ring(self.BENT, numbers), False)
        self.assertIs(is_ring(self.BENT, [-4, -3, -1, -2]), False)
        self.assertIs(is_ring(self.BENT, [0, 1, 3, 2, 4]), False)

    def test_not_joined(self):
        for numbers in [[0, 3, 1, 2], [0, 1, 3], [0, 1, 3, 2, 2], [0, 0, 1, 3, 2], [0, 1, 3, 2, 0], [1, 3, 2]]:
            self.assertIs(is_ring(self.BENT, numbers), False, numbers)

    def test_the_last_not_joined_with_the_first(self):
        slit = sheet_read("#^#/+.+/#.#")
        self.assertIs(is_ring(slit, [0, 1, 3, 2]), False)

    def test_there_and_back(self):
        for sheet in SHEETS:
            for i, j in joined_pairs(sheet):
                self.assertIs(is_ring(sheet, [i, j]), False)
                self.assertIs(is_ring(sheet, [i, j, i, j]), False)

    def test_round_again_and_again(self):
        # A single bend leads back after four rounds, and after no fewer.
        for rounds in range(1, 9):
            numbers = [0, 1, 3, 2] * rounds
            self.assertIs(is_ring(self.BENT, numbers), plain_is_ring(self.BENT, numbers))

    def test_all_lists_of_four_of_all_squares_of_four(self):
        squares = [sheet for sheet in SMALL if len(sheet[1]) == 4]
        self.assertEqual(len(squares), 81)
        for sheet in squares:
            for numbers in itertools.permutations(range(4)):
                self.assertIs(is_ring(sheet, list(numbers)), plain_is_ring(sheet, numbers))

    def test_samples(self):
        draws = Draws(10)
        yes = 0
        for sheet in MANY:
            for _ in range(6):
                numbers = walks(draws, sheet, 1 + draws.below(16))
                self.assertIs(is_ring(sheet, numbers), plain_is_ring(sheet, numbers))
                back = [k for k in reversed(numbers[1:-1])]
                self.assertIs(is_ring(sheet, numbers + back), False)
            told = folded(sheet)
            if told[0] == "ring":
                yes += 1
                self.assertIs(is_ring(sheet, told[1]), True)
                self.assertIs(is_ring(sheet, told[1][::-1]), True)
        self.assertGreater(yes, 20)


class FromWhateverPose(unittest.TestCase):
    def test_a_told_ring_does_not_lead_back(self):
        for sheet in MANY:
            told = folded(sheet)
            if told[0] == "ring":
                for pose in POSES + ELSEWHERE:
                    self.assertNotEqual(walked(sheet, told[1] + told[1][:1], pose), pose)

    def test_where_the_pose_lies_does_not_count(self):
        draws = Draws(12)
        for sheet in SAMPLES[::5]:
            numbers = walks(draws, sheet, 9)
            spot, right, up = walked(sheet, numbers, START)
            for shift in [(2, -4, 6), (BIG, -BIG, BIG)]:
                far = (plus(START[0], shift), X, Y)
                self.assertEqual(walked(sheet, numbers, far), (plus(spot, shift), right, up))
                self.assertEqual(plus(walked(sheet, numbers, far)[0], minus(shift)), spot)


class Keeping(unittest.TestCase):
    def test_folded(self):
        for sheet in SMALL[::12] + MANY[::2]:
            ask_and_wreck(self, folded, sheet)
            ask_and_wreck(self, folded, sheet, len(sheet[0]) - 1, ELSEWHERE[2])

    def test_walked_and_is_ring(self):
        draws = Draws(13)
        for sheet in SMALL[::12] + MANY[::2]:
            numbers = walks(draws, sheet, 7)
            ask_and_wreck(self, walked, sheet, numbers, ELSEWHERE[3])
            ask_and_wreck(self, is_ring, sheet, numbers)
            ask_and_wreck(self, is_ring, sheet, [])


if __name__ == "__main__":
    unittest.main()
