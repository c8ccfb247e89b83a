"""Points 5 and 6, and the bounds of point 2: sheetfold.moves."""

import unittest

from samples import BIG, PLAIN_MOVE, SPOTS, TURNS, UNITS, frames, is_move, is_pose, is_spot
from sheetfold.moves import joined_moves, move_back, move_between, moved, out_of, pose_moved
from sheetfold.turns import turned

X, Y, Z = (1, 0, 0), (0, 1, 0), (0, 0, 1)
ABOUT_Z = (Y, (-1, 0, 0), Z)
SHIFTS = [(0, 0, 0), (1, -2, 3), (BIG, -BIG, BIG), (-BIG, 0, BIG - 1)]
MOVES = [(turn, shift) for turn in TURNS for shift in SHIFTS]
POSES = [(spot, right, up) for spot in SHIFTS for right, up in frames()]


def sum_of(one, other):
    return tuple(a + b for a, b in zip(one, other))


class Moved(unittest.TestCase):
    def test_one_by_hand(self):
        self.assertEqual(moved((ABOUT_Z, (10, 20, 30)), (1, 2, 3)), (8, 21, 33))

    def test_turned_and_then_shifted(self):
        for move in MOVES:
            for spot in SPOTS:
                told = moved(move, spot)
                self.assertTrue(is_spot(told))
                self.assertEqual(told, sum_of(turned(move[0], spot), move[1]))

    def test_the_plain_move_leaves_all(self):
        for spot in SPOTS:
            self.assertEqual(moved(PLAIN_MOVE, spot), spot)


class JoinedMoves(unittest.TestCase):
    def test_the_order_counts(self):
        shift = (PLAIN_MOVE[0], (1, 0, 0))
        turn = (ABOUT_Z, (0, 0, 0))
        self.assertEqual(joined_moves(shift, turn), (ABOUT_Z, (0, 1, 0)))
        self.assertEqual(joined_moves(turn, shift), (ABOUT_Z, (1, 0, 0)))

    def test_does_the_first_and_then_the_second(self):
        spots = [(0, 0, 0), X, Y, Z, (BIG, -BIG, 7)]
        for first in MOVES:
            for second in MOVES:
                both = joined_moves(first, second)
                self.assertTrue(is_move(both))
                for spot in spots:
                    self.assertEqual(moved(both, spot), moved(second, moved(first, spot)))


class MoveBack(unittest.TestCase):
    def test_one_by_hand(self):
        self.assertEqual(move_back((ABOUT_Z, (10, 20, 30))), (((0, -1, 0), X, Z), (-20, 10, -30)))

    def test_undoes_either_way_round(self):
        for move in MOVES:
            back = move_back(move)
            self.assertTrue(is_move(back))
            self.assertEqual(joined_moves(move, back), PLAIN_MOVE)
            self.assertEqual(joined_moves(back, move), PLAIN_MOVE)
            self.assertEqual(move_back(back), move)
            for spot in SPOTS:
                self.assertEqual(moved(back, moved(move, spot)), spot)
                self.assertEqual(moved(move, moved(back, spot)), spot)


class OutOf(unittest.TestCase):
    def test_by_hand(self):
        self.assertEqual(out_of(((1, 1, 0), X, Y)), Z)
        self.assertEqual(out_of(((1, 1, 0), Y, X)), (0, 0, -1))
        self.assertEqual(out_of(((BIG, -BIG, 0), Z, X)), Y)

    def test_is_the_unit_that_makes_right_and_up_a_turn(self):
        for pose in POSES:
            told = out_of(pose)
            self.assertTrue(is_spot(told) and told in UNITS)
            self.assertIn((pose[1], pose[2], told), TURNS)


class PoseMoved(unittest.TestCase):
    def test_one_by_hand(self):
        told = pose_moved((ABOUT_Z, (10, 20, 30)), ((1, 2, 3), X, Y))
        self.assertEqual(told, ((8, 21, 33), Y, (-1, 0, 0)))

    def test_spot_moved_right_and_up_turned(self):
        for move in MOVES:
            for pose in POSES:
                told = pose_moved(move, pose)
                self.assertTrue(is_pose(told))
                self.assertEqual(told, (moved(move, pose[0]), turned(move[0], pose[1]), turned(move[0], pose[2])))

    def test_out_is_turned_along(self):
        for move in MOVES:
            for pose in POSES:
                self.assertEqual(out_of(pose_moved(move, pose)), turned(move[0], out_of(pose)))


class MoveBetween(unittest.TestCase):
    def test_one_by_hand(self):
        told = move_between(((1, 1, 0), X, Y), ((0, 1, 1), Z, Y))
        self.assertEqual(told, ((Z, Y, (-1, 0, 0)), (0, 0, 0)))

    def test_of_a_pose_and_itself_the_plain_move(self):
        for pose in POSES:
            self.assertEqual(move_between(pose, pose), PLAIN_MOVE)

    def test_leads_the_first_to_the_second(self):
        for pose in POSES:
            for other in POSES:
                told = move_between(pose, other)
                self.assertTrue(is_move(told))
                self.assertEqual(pose_moved(told, pose), other)

    def test_is_the_only_such_move(self):
        for move in MOVES:
            for pose in POSES:
                self.assertEqual(move_between(pose, pose_moved(move, pose)), move)


if __name__ == "__main__":
    unittest.main()
