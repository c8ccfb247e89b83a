"""Points 4 and 5, and the bounds of point 2: sheetfold.turns."""

import unittest

from samples import BIG, PLAIN_TURN, SPOTS, TURNS, UNITS, is_spot, is_turn_by_kind
from sheetfold.turns import all_turns, cross, is_turn, joined_turns, turn_back, turned

X, Y, Z = (1, 0, 0), (0, 1, 0), (0, 0, 1)
MINUS_Z = (0, 0, -1)


def dot(one, other):
    return sum(a * b for a, b in zip(one, other))


class Cross(unittest.TestCase):
    def test_small_numbers(self):
        self.assertEqual(cross((1, 2, 3), (4, 5, 6)), (-3, 6, -3))
        self.assertEqual(cross((2, -3, 5), (-7, 11, 13)), (-94, -61, 1))

    def test_units(self):
        self.assertEqual(cross(X, Y), Z)
        self.assertEqual(cross(Y, Z), X)
        self.assertEqual(cross(Z, X), Y)
        self.assertEqual(cross(Y, X), MINUS_Z)

    def test_noughts(self):
        self.assertEqual(cross((0, 0, 0), (4, 5, 6)), (0, 0, 0))
        self.assertEqual(cross((4, 5, 6), (0, 0, 0)), (0, 0, 0))
        self.assertEqual(cross((0, 2, 0), (3, 0, 0)), (0, 0, -6))

    def test_great_numbers(self):
        self.assertEqual(cross((BIG, 0, 0), (0, BIG, 0)), (0, 0, BIG * BIG))
        self.assertEqual(cross((BIG, -BIG, 1), (-BIG, -BIG, BIG)), (BIG - BIG ** 2, -BIG - BIG ** 2, -2 * BIG ** 2))
        self.assertEqual(cross((BIG, BIG - 1, 0), (BIG - 1, BIG - 2, 0)), (0, 0, -1))

    def test_all_samples(self):
        for one in SPOTS:
            for other in SPOTS:
                told = cross(one, other)
                (a, b, c), (d, e, f) = one, other
                self.assertEqual(told, (b * f - c * e, c * d - a * f, a * e - b * d))
                self.assertTrue(is_spot(told))
                self.assertEqual((dot(told, one), dot(told, other)), (0, 0))

    def test_changed_about_it_has_the_other_sign(self):
        for one in SPOTS:
            for other in SPOTS:
                self.assertEqual(cross(other, one), tuple(-n for n in cross(one, other)))


class AllTurns(unittest.TestCase):
    def test_twenty_four_unlike_and_rising(self):
        told = all_turns()
        self.assertIs(type(told), list)
        self.assertEqual(len(told), 24)
        self.assertTrue(all(one < other for one, other in zip(told, told[1:])))

    def test_each_is_a_turn_as_point_5_says(self):
        for turn in all_turns():
            self.assertTrue(is_turn_by_kind(turn), turn)
            p, q, r = turn
            self.assertTrue(p in UNITS and q in UNITS and r in UNITS)
            self.assertEqual(dot(p, q), 0)
            self.assertEqual(r, cross(p, q))

    def test_they_are_those_of_measure_one(self):
        self.assertEqual(all_turns(), TURNS)

    def test_a_change_of_the_told_list_does_not_come_back(self):
        told = all_turns()
        told[0] = None
        told.append("more")
        self.assertEqual(all_turns(), TURNS)
        self.assertIsNot(all_turns(), all_turns())

    def test_a_told_list_stays_when_it_is_asked_again(self):
        told = all_turns()
        all_turns().clear()
        self.assertEqual(told, TURNS)


class IsTurn(unittest.TestCase):
    def assert_no_turn(self, things):
        for k, thing in enumerate(things):
            # No repr in the message: Python won't write out a number of 5000 digits.
            self.assertIs(is_turn(thing), False, f"thing {k} of the list")

    def test_true_of_the_twenty_four_alone(self):
        for p in UNITS:
            for q in UNITS:
                for r in UNITS:
                    self.assertIs(is_turn((p, q, r)), (p, q, r) in TURNS)

    def test_the_other_way_about(self):
        self.assert_no_turn([(X, Y, MINUS_Z), (Y, X, Z), (X, Z, Y)])

    def test_two_along_one_axis(self):
        self.assert_no_turn([(X, X, Z), (X, (-1, 0, 0), Z), (X, Y, Y), (X, X, (0, 0, 0)), (X, X, X)])

    def test_units_too_long_or_of_noughts(self):
        nought = (0, 0, 0)
        self.assert_no_turn([((2, 0, 0), Y, (0, 0, 2)), (X, (0, BIG, 0), (0, 0, BIG)), (nought, nought, nought)])
        self.assert_no_turn([(nought, Y, nought), (X, Y, nought), ((1, 1, 0), (0, 1, 0), Z), (X, Y, (0, 0, 10 ** 5000))])

    def test_truths_among_the_numbers(self):
        self.assert_no_turn([((True, 0, 0), Y, Z), ((1, False, 0), Y, Z), (X, Y, (0, 0, True)), (X, (0, 1, False), Z)])

    def test_other_things_among_the_numbers(self):
        self.assert_no_turn([(("1", 0, 0), Y, Z), ((1, 0, ""), Y, Z), (X, Y, (0, 0, 1.0)), (X, (0, 1 + 0j, 0), Z)])
        self.assert_no_turn([(X, (0, 1, None), Z), (X, (0, 1, []), Z), (X, (0, 1, {}), Z), (X, (0, 1, (0,)), Z)])

    def test_lists_in_the_place_of_tuples(self):
        self.assert_no_turn([[X, Y, Z], ([1, 0, 0], Y, Z), (X, Y, [0, 0, 1]), [[1, 0, 0], [0, 1, 0], [0, 0, 1]]])

    def test_too_few_or_too_many(self):
        self.assert_no_turn([(), (X,), (X, Y), (X, Y, Z, X), (X, Y, Z, None)])
        self.assert_no_turn([(X, Y, ()), (X, Y, (0, 1)), (X, (0, 1), Z), ((1, 0, 0, 0), Y, Z), (X, Y, (0, 0, 1, 0))])

    def test_other_things(self):
        self.assert_no_turn([None, 0, 1, 24, -BIG, True, False, 1.5, "", "abc", "((1, 0, 0), (0, 1, 0), (0, 0, 1))"])
        self.assert_no_turn([[], {}, set(), {X: Y}, {X, Y, Z}, b"abc", object(), is_turn, int, range(3), X, (1, 2, 3)])
        self.assert_no_turn([("abc", "abc", "abc"), (None, None, None), (X, Y, None), (X, Y, "001"), (X, 0, Z)])

    def test_things_that_hold_themselves(self):
        around = []
        around.append(around)
        self.assert_no_turn([around, (around, around, around), (X, Y, (0, 0, around))])

    def test_what_is_handed_in_stays(self):
        handed = [[1, 0, 0], [0, 1, 0], [0, 0, 1]]
        is_turn(handed)
        self.assertEqual(handed, [[1, 0, 0], [0, 1, 0], [0, 0, 1]])


class Turned(unittest.TestCase):
    def test_one_by_hand(self):
        turn = (Y, (-1, 0, 0), Z)
        self.assertEqual(turned(turn, (1, 2, 3)), (-2, 1, 3))

    def test_the_units_turn_to_the_turns_own(self):
        for turn in TURNS:
            self.assertEqual((turned(turn, X), turned(turn, Y), turned(turn, Z)), turn)

    def test_all_turns_of_all_samples(self):
        for p, q, r in TURNS:
            for a, b, c in SPOTS:
                told = turned((p, q, r), (a, b, c))
                self.assertEqual(told, tuple(a * p[k] + b * q[k] + c * r[k] for k in range(3)))
                self.assertTrue(is_spot(told))

    def test_the_plain_turn_leaves_all(self):
        for spot in SPOTS:
            self.assertEqual(turned(PLAIN_TURN, spot), spot)


class JoinedTurns(unittest.TestCase):
    def test_the_order_counts(self):
        about_z = (Y, (-1, 0, 0), Z)
        about_x = (X, Z, (0, -1, 0))
        self.assertEqual(joined_turns(about_z, about_x), (Z, (-1, 0, 0), (0, -1, 0)))
        self.assertEqual(joined_turns(about_x, about_z), (Y, Z, X))

    def test_does_the_first_and_then_the_second(self):
        for first in TURNS:
            for second in TURNS:
                both = joined_turns(first, second)
                self.assertTrue(is_turn_by_kind(both))
                self.assertIs(is_turn(both), True)
                for spot in SPOTS:
                    self.assertEqual(turned(both, spot), turned(second, turned(first, spot)))


class TurnBack(unittest.TestCase):
    def test_one_by_hand(self):
        self.assertEqual(turn_back((Y, Z, X)), (Z, X, Y))

    def test_undoes_either_way_round(self):
        for turn in TURNS:
            back = turn_back(turn)
            self.assertTrue(is_turn_by_kind(back))
            self.assertEqual(joined_turns(turn, back), PLAIN_TURN)
            self.assertEqual(joined_turns(back, turn), PLAIN_TURN)
            self.assertEqual(turn_back(back), turn)
            for spot in SPOTS:
                self.assertEqual(turned(back, turned(turn, spot)), spot)
                self.assertEqual(turned(turn, turned(back, spot)), spot)


if __name__ == "__main__":
    unittest.main()
