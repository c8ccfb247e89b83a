"""Points 22 and 33: sheetfold.ways."""

import unittest

from keeping import ask_and_wreck, refused_and_kept
from sheet_samples import Draws
from sheetfold.errors import Crowded, NoSquare
from sheetfold.ways import steps_from, way_over
from solid_samples import (
    BRIDGE, CROWDED_SOLIDS, EASY_SOLIDS, FIVES, SIXES, TWO_CROWDS, plain_crowded, plain_joins, plain_skin,
    shifted_cubes,
)

CUBE = [(0, 0, 0)]
ROW = [(0, 0, k) for k in range(6)]
SOLIDS = [CUBE, ROW[:2], ROW] + EASY_SOLIDS[::4]
SOLIDS += [solid for solid in FIVES[::60] + SIXES[::300] if plain_crowded(solid) is None]
NO_NUMBERS = [-1, -2, 10 ** 30, -10 ** 30, True, False, None, "", "0", "1", [], [0], (), (0,), (0, 1), {}, {0: 0}, 0.0]
NO_NUMBERS += [1.0, float("inf"), {1}, b"0", int, object()]


def joined(solid):
    return {(i, j) for a, b, bend in plain_joins(solid) for i, j in [(a, b), (b, a)]}


def plain_steps(solid, start):
    """Steps from a square by lengthening all ways by one join again and again."""
    pairs = joined(solid)
    steps = {start: 0}
    length = 0
    while len(steps) < len(plain_skin(solid)):
        length += 1
        reached = {j for i, j in pairs if i in steps}
        steps.update({j: length for j in reached - set(steps)})
    return [steps[k] for k in range(len(steps))]


def some_numbers(draws, solid):
    count = len(plain_skin(solid))
    return sorted({0, count - 1, draws.below(count), draws.below(count)})


class Steps(unittest.TestCase):
    def test_by_hand(self):
        self.assertEqual(steps_from(CUBE, 0), [0, 1, 1, 1, 1, 2])
        self.assertEqual(steps_from(CUBE, 2), [1, 1, 0, 2, 1, 1])
        self.assertEqual(steps_from(CUBE, 5), [2, 1, 1, 1, 1, 0])

    def test_from_the_one_end_of_a_row_to_the_other(self):
        skin = plain_skin(ROW)
        told = steps_from(ROW, skin.index((1, 1, 0)))
        self.assertEqual(told[skin.index((1, 1, 12))], 7)
        self.assertEqual(max(told), 7)

    def test_samples_against_a_plain_reckoning(self):
        draws = Draws(91)
        for solid in SOLIDS:
            for i in some_numbers(draws, solid):
                self.assertEqual(repr(steps_from(solid, i)), repr(plain_steps(solid, i)))

    def test_every_square_of_some(self):
        for solid in [CUBE, ROW, SOLIDS[20], SOLIDS[-5]]:
            for i in range(len(plain_skin(solid))):
                self.assertEqual(steps_from(solid, i), plain_steps(solid, i))

    def test_solids_of_one_to_six_cubes(self):
        self.assertEqual({len(solid) for solid in SOLIDS}, {1, 2, 3, 4, 5, 6})


class Ways(unittest.TestCase):
    def assert_way(self, solid, i, j):
        told = way_over(solid, i, j)
        self.assertEqual((type(told), len(told), [type(part) for part in told]), (tuple, 2, [list, list]))
        numbers, steps = told
        self.assertEqual(repr(steps), repr(plain_steps(solid, i)))
        self.assertEqual((numbers[0], numbers[-1], len(numbers)), (i, j, steps[j] + 1))
        self.assertTrue(all(type(k) is int for k in numbers))
        pairs = joined(solid)
        self.assertTrue(all(pair in pairs for pair in zip(numbers, numbers[1:])))
        # The counts show that no way is shorter: no join leads on by more than one step.
        self.assertTrue(all(steps[b] <= steps[a] + 1 for a, b in pairs))
        return numbers

    def test_by_hand(self):
        self.assertEqual(way_over(CUBE, 0, 1), ([0, 1], [0, 1, 1, 1, 1, 2]))
        numbers, steps = way_over(CUBE, 0, 5)
        self.assertEqual((len(numbers), numbers[0], numbers[2], steps), (3, 0, 5, [0, 1, 1, 1, 1, 2]))

    def test_every_two_squares_of_a_cube(self):
        for i in range(6):
            for j in range(6):
                self.assert_way(CUBE, i, j)

    def test_from_a_square_to_itself(self):
        for solid in SOLIDS[::4]:
            for i in range(len(plain_skin(solid))):
                self.assertEqual(way_over(solid, i, i)[0], [i])
                self.assertEqual(way_over(solid, i, i)[1][i], 0)

    def test_samples(self):
        draws = Draws(92)
        for solid in SOLIDS:
            for i in some_numbers(draws, solid)[:2]:
                for j in some_numbers(draws, solid):
                    self.assert_way(solid, i, j)

    def test_the_way_back_has_as_many(self):
        draws = Draws(93)
        for solid in SOLIDS:
            i, j = draws.below(len(plain_skin(solid))), draws.below(len(plain_skin(solid)))
            self.assertEqual(len(way_over(solid, i, j)[0]), len(way_over(solid, j, i)[0]))

    def test_far_off(self):
        for shift in [(10 ** 20 - 9, 9 - 10 ** 20, 0), (-7, 0, 3)]:
            for solid in [CUBE, ROW]:
                far = shifted_cubes(solid, shift)
                self.assertEqual(steps_from(far, 3), steps_from(solid, 3))
                self.assert_way(far, 2, 5)


class Refused(unittest.TestCase):
    def assert_no_square(self, ask, solid, *numbers):
        with self.assertRaises(NoSquare) as caught:
            ask(solid, *numbers)
        self.assertIs(type(caught.exception), NoSquare)

    def test_no_numbers(self):
        for solid in [CUBE, ROW]:
            count = len(plain_skin(solid))
            for thing in NO_NUMBERS + [count, count + 1, -count, 10 ** 5000]:
                self.assert_no_square(steps_from, solid, thing)
                self.assert_no_square(way_over, solid, thing, 0)
                self.assert_no_square(way_over, solid, 0, thing)
                self.assert_no_square(way_over, solid, thing, thing)

    def test_the_last_number_is_one(self):
        for solid in [CUBE, ROW]:
            count = len(plain_skin(solid))
            self.assertEqual(way_over(solid, count - 1, count - 1)[0], [count - 1])

    def test_what_was_handed_in_stays(self):
        for numbers in [(-1,), ([0],), (0, [1]), ([0], 1), (True, False)]:
            refused_and_kept(self, NoSquare, steps_from if len(numbers) == 1 else way_over, CUBE, *numbers)

    def test_crowded_goes_ahead(self):
        for solid in CROWDED_SOLIDS[::9] + [BRIDGE]:
            edge = plain_crowded(solid)
            for thing in [0, 3, -1, None, "0", 10 ** 30, True]:
                for ask, numbers in [(steps_from, (thing,)), (way_over, (thing, 0)), (way_over, (0, thing))]:
                    self.assertEqual(refused_and_kept(self, Crowded, ask, solid, *numbers).edge, edge)

    def test_the_least_crowded_edge(self):
        self.assertEqual(refused_and_kept(self, Crowded, steps_from, TWO_CROWDS, 0).edge, (2, 2, 1))
        self.assertEqual(refused_and_kept(self, Crowded, way_over, TWO_CROWDS, 0, 1).edge, (2, 2, 1))


class Keeping(unittest.TestCase):
    def test_what_is_handed_in_and_told(self):
        draws = Draws(94)
        for solid in SOLIDS[::5]:
            i, j = draws.below(len(plain_skin(solid))), draws.below(len(plain_skin(solid)))
            ask_and_wreck(self, steps_from, solid, i)
            ask_and_wreck(self, way_over, solid, i, j)
            ask_and_wreck(self, way_over, solid, i, i)


if __name__ == "__main__":
    unittest.main()
