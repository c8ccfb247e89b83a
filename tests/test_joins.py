"""Points 12 and 13: sheetfold.joins."""

import unittest

from keeping import ask_and_wreck, refused_and_kept
from samples import BIG, frames, is_pose, is_spot
from sheet_samples import BENDS, START, minus, plain_cross, plain_led, plus
from sheetfold import joins
from sheetfold.errors import NoBend
from sheetfold.joins import Down, Join, Up, join_of, unit_of

X, Y, Z = (1, 0, 0), (0, 1, 0), (0, 0, 1)


def on_a_square(right, up, far):
    """A pose with this right and up, whose spot is a square on which out stands upright."""
    out = plain_cross(right, up)
    return tuple(n + (0 if along else 1) for n, along in zip(far, out)), right, up


FARS = [(0, 0, 0), (-6, 4, 2), (BIG, -BIG, BIG), (-BIG, BIG - 2, 0)]
POSES = [on_a_square(right, up, far) for right, up in frames() for far in FARS]


class JoinOf(unittest.TestCase):
    def test_the_three(self):
        self.assertIs(type(join_of(0)), Join)
        self.assertIs(type(join_of(1)), Up)
        self.assertIs(type(join_of(-1)), Down)

    def test_their_bends(self):
        for bend in BENDS:
            told = join_of(bend).bend()
            self.assertEqual((type(told), told), (int, bend))
        self.assertEqual((Join().bend(), Up().bend(), Down().bend()), (0, 1, -1))

    def test_up_and_down_stand_straight_beneath_the_flat_one(self):
        self.assertEqual(Join.__bases__, (object,))
        self.assertEqual((Up.__bases__, Down.__bases__), ((Join,), (Join,)))

    def test_no_class_but_these_three(self):
        found = [name for name, thing in vars(joins).items() if isinstance(thing, type) and issubclass(thing, Join)]
        self.assertEqual(sorted(found), ["Down", "Join", "Up"])

    def refuses(self, things):
        for thing in things:
            refused_and_kept(self, NoBend, join_of, thing)

    def test_other_whole_numbers(self):
        self.refuses([2, -2, 3, 4, 10, BIG, -BIG, 2 ** 64, -2 ** 64])

    def test_numbers_that_python_does_not_write_out(self):
        for thing in [10 ** 5000, -10 ** 5000]:
            with self.assertRaises(NoBend):
                join_of(thing)

    def test_truths(self):
        self.refuses([True, False])

    def test_other_things(self):
        self.refuses([None, "", "0", "1", "-1", "flat", [], [0], [1], (), (0,), (-1,), {}, {0: 0}, {1: 1}])
        self.refuses([0.0, 1.0, -1.0, 0.5, float("inf"), float("nan"), 1j, b"", b"1", range(1)])
        self.refuses([set(), {1}, frozenset([0]), int, bool, [[0]], ((1,),)])
        for thing in [object(), join_of, Join, Join(), Up(), iter([1])]:
            with self.assertRaises(NoBend):
                join_of(thing)

    def test_a_list_that_holds_itself(self):
        around = []
        around.append(around)
        with self.assertRaises(NoBend):
            join_of(around)


class UnitOf(unittest.TestCase):
    def test_by_hand(self):
        self.assertEqual([unit_of(START, way) for way in range(4)], [X, Y, (-1, 0, 0), (0, -1, 0)])
        pose = ((0, 1, 1), Z, (0, -1, 0))
        self.assertEqual([unit_of(pose, way) for way in range(4)], [Z, (0, -1, 0), (0, 0, -1), Y])

    def test_all_poses(self):
        for pose in POSES:
            told = [unit_of(pose, way) for way in range(4)]
            self.assertTrue(all(is_spot(unit) for unit in told))
            self.assertEqual(told, [pose[1], pose[2], minus(pose[1]), minus(pose[2])])


class Led(unittest.TestCase):
    def test_flat_by_hand(self):
        spots = [Join().led(START, way) for way in range(4)]
        self.assertEqual(spots, [(spot, X, Y) for spot in [(3, 1, 0), (1, 3, 0), (-1, 1, 0), (1, -1, 0)]])

    def test_up_by_hand(self):
        self.assertEqual(Up().led(START, 0), ((2, 1, 1), Z, Y))
        self.assertEqual(Up().led(START, 1), ((1, 2, 1), X, Z))
        self.assertEqual(Up().led(START, 2), ((0, 1, 1), (0, 0, -1), Y))
        self.assertEqual(Up().led(START, 3), ((1, 0, 1), X, (0, 0, -1)))

    def test_down_by_hand(self):
        self.assertEqual(Down().led(START, 0), ((2, 1, -1), (0, 0, -1), Y))
        self.assertEqual(Down().led(START, 1), ((1, 2, -1), X, (0, 0, -1)))
        self.assertEqual(Down().led(START, 2), ((0, 1, -1), Z, Y))
        self.assertEqual(Down().led(START, 3), ((1, 0, -1), X, Z))

    def test_all_poses_ways_and_bends(self):
        for pose in POSES:
            for way in range(4):
                for bend, join in zip(BENDS, [Down(), Join(), Up()]):
                    told = join.led(pose, way)
                    self.assertTrue(is_pose(told))
                    self.assertEqual(told, plain_led(bend, pose, way))
                    self.assertEqual(join_of(bend).led(pose, way), told)

    def test_it_leads_to_a_square_with_out_upright_on_it(self):
        for pose in POSES:
            for way in range(4):
                for bend in BENDS:
                    spot, right, up = join_of(bend).led(pose, way)
                    out = plain_cross(right, up)
                    self.assertEqual([n % 2 for n in spot], [0 if along else 1 for along in out])

    def test_it_leads_back_by_the_way_against_it(self):
        for pose in POSES:
            for way in range(4):
                for bend in BENDS:
                    join = join_of(bend)
                    self.assertEqual(join.led(join.led(pose, way), (way + 2) % 4), pose)

    def test_both_squares_have_the_edge(self):
        for pose in POSES:
            for way in range(4):
                for bend in BENDS:
                    edge = plus(pose[0], unit_of(pose, way))
                    there = join_of(bend).led(pose, way)
                    self.assertEqual(plus(there[0], unit_of(there, (way + 2) % 4)), edge)

    def test_four_joins_of_one_bend_go_round_to_the_first_pose(self):
        for pose in POSES:
            for way in range(4):
                for bend in [1, -1]:
                    there = pose
                    for _ in range(4):
                        there = join_of(bend).led(there, way)
                    self.assertEqual(there, pose)

    def test_a_join_can_be_asked_again(self):
        for join in [Join(), Up(), Down()]:
            first = join.led(START, 0)
            join.led(POSES[5], 3)
            self.assertEqual((join.led(START, 0), join.bend()), (first, join_of(join.bend()).bend()))

    def test_what_is_handed_in_stays(self):
        for bend in BENDS:
            ask_and_wreck(self, join_of(bend).led, START, 1)
        ask_and_wreck(self, unit_of, START, 2)


if __name__ == "__main__":
    unittest.main()
