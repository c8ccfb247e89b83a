"""Points 7 to 9, and the bounds of point 2: sheetfold.sheets."""

import unittest

from keeping import ask_and_wreck, refused_and_kept
from sheet_samples import BENDS, FAR, MANY, MANY_PARTS, SHEETS, SMALL, SMALL_PARTS, Draws, around, plain_sheet
from sheetfold.errors import NoSheet
from sheetfold.sheets import bends_of, neighbours, sheet_of, shifted, with_bends

ROW = [(x, 0) for x in range(60)]
ROW_JOINS = [((x, 0), (x + 1, 0), 0) for x in range(59)]


def is_sheet_by_kind(thing):
    if type(thing) is not tuple or len(thing) != 2 or not all(type(part) is list for part in thing):
        return False
    if not all(type(part) is tuple for part in thing[0] + thing[1]):
        return False
    return all(type(n) is int for part in thing[0] + thing[1] for n in part)


class Refusals(unittest.TestCase):
    def assert_no_sheet(self, cells, joins, why):
        error = refused_and_kept(self, NoSheet, sheet_of, cells, joins)
        self.assertEqual(repr(error.why), repr(why))


class RightSheets(unittest.TestCase):
    def assert_sheet(self, cells, joins, want):
        told = sheet_of(cells, joins)
        self.assertTrue(is_sheet_by_kind(told))
        self.assertEqual(told, want)

    def test_one_cell(self):
        for cell in [(0, 0), (-1, 7), (FAR, -FAR), (-FAR, FAR)]:
            self.assert_sheet([cell], [], ([cell], []))

    def test_two_cells(self):
        self.assert_sheet([(0, 0), (1, 0)], [((0, 0), (1, 0), 1)], ([(0, 0), (1, 0)], [(0, 1, 1)]))
        self.assert_sheet([(1, 0), (0, 0)], [((1, 0), (0, 0), -1)], ([(0, 0), (1, 0)], [(0, 1, -1)]))
        self.assert_sheet([(3, 5), (3, 4)], [((3, 5), (3, 4), 0)], ([(3, 4), (3, 5)], [(0, 1, 0)]))
        self.assert_sheet([(-1, -1), (-1, 0)], [((-1, -1), (-1, 0), 0)], ([(-1, -1), (-1, 0)], [(0, 1, 0)]))

    def test_three_cells(self):
        cells = [(1, 0), (0, 1), (0, 0)]
        joins = [((1, 0), (0, 0), -1), ((0, 0), (0, 1), 1)]
        self.assert_sheet(cells, joins, ([(0, 0), (0, 1), (1, 0)], [(0, 1, 1), (0, 2, -1)]))

    def test_neighbours_may_be_slit(self):
        square = [(0, 0), (0, 1), (1, 0), (1, 1)]
        joins = [((0, 0), (0, 1), 0), ((0, 1), (1, 1), 1), ((1, 1), (1, 0), -1)]
        self.assert_sheet(square, joins, (square, [(0, 1, 0), (1, 3, 1), (2, 3, -1)]))

    def test_twenty_six_cells(self):
        self.assert_sheet(ROW[:26], ROW_JOINS[:25], (ROW[:26], [(k, k + 1, 0) for k in range(25)]))

    def test_as_far_off_as_places_go(self):
        cells = [(FAR, FAR), (FAR - 1, FAR), (FAR, FAR - 1)]
        joins = [(cells[0], cells[1], 1), (cells[0], cells[2], -1)]
        self.assert_sheet(cells, joins, ([cells[1], cells[2], cells[0]], [(0, 2, 1), (1, 2, -1)]))
        cells = [(-FAR, -FAR), (-FAR, -FAR + 1)]
        self.assert_sheet(cells, [(cells[1], cells[0], 0)], (cells, [(0, 1, 0)]))

    def test_all_samples(self):
        for parts in SMALL_PARTS + MANY_PARTS:
            self.assert_sheet(*parts, plain_sheet(*parts))

    def test_in_any_order_and_either_cell_first(self):
        draws = Draws(11)
        for cells, joins in MANY_PARTS + SMALL_PARTS[::10]:
            want = plain_sheet(cells, joins)
            about = [(d, c, bend) for c, d, bend in joins]
            self.assertEqual(sheet_of(draws.shuffled(cells), draws.shuffled(joins)), want)
            self.assertEqual(sheet_of(draws.shuffled(cells), draws.shuffled(about)), want)
            self.assertEqual(sheet_of(cells[::-1], joins[::-1]), want)


class EachFaultAlone(Refusals):
    def test_count(self):
        self.assert_no_sheet([], [], ("count", 0))
        for n in range(27, 61):
            self.assert_no_sheet(ROW[:n], ROW_JOINS[: n - 1], ("count", n))

    def test_twice(self):
        self.assert_no_sheet([(0, 0), (0, 0)], [], ("twice", (0, 0)))
        self.assert_no_sheet([(0, 0), (1, 0), (0, 0)], ROW_JOINS[:1], ("twice", (0, 0)))
        self.assert_no_sheet([(1, 0), (1, 0), (1, 0), (0, 0)], ROW_JOINS[:1], ("twice", (1, 0)))
        self.assert_no_sheet([(FAR, -FAR), (FAR, -FAR)], [], ("twice", (FAR, -FAR)))

    def test_the_least_of_several_that_stand_there_twice(self):
        cells = [(1, 0), (0, 0), (2, 0), (2, 0), (1, 0)]
        self.assert_no_sheet(cells, ROW_JOINS[:2], ("twice", (1, 0)))
        self.assert_no_sheet(cells[::-1], ROW_JOINS[:2], ("twice", (1, 0)))
        cells = [(0, 0), (0, -1), (0, -1), (-1, 5), (-1, 5), (0, 0)]
        self.assert_no_sheet(cells, [], ("twice", (-1, 5)))

    def test_a_join_of_cells_that_are_not_told(self):
        for k in range(3):
            joins = list(ROW_JOINS[:2])
            joins.insert(k, ((2, 0), (3, 0), 0))
            self.assert_no_sheet(ROW[:3], joins, ("join", k))
            joins[k] = ((3, 0), (2, 0), 0)
            self.assert_no_sheet(ROW[:3], joins, ("join", k))
            for join in [((-1, 0), (0, 0), 0), ((1, 0), (1, -1), 0), ((7, 7), (7, 8), 0)]:
                joins[k] = join
                self.assert_no_sheet(ROW[:3], joins, ("join", k))
        self.assert_no_sheet([(0, 0)], [((0, 0), (FAR, FAR), 0)], ("join", 0))

    def test_a_join_of_cells_that_are_no_neighbours(self):
        cells = [(0, 0), (0, 1), (1, 0), (1, 1), (2, 0)]
        joins = [(cells[0], cells[1], 0), (cells[0], cells[2], 0), (cells[3], cells[2], 0), (cells[2], cells[4], 0)]
        for c in cells:
            for d in cells:
                if d not in around(c):
                    self.assert_no_sheet(cells, joins + [(c, d, 0)], ("join", 4))
                    self.assert_no_sheet(cells, [(c, d, 0)] + joins, ("join", 0))

    def test_a_join_of_a_cell_with_itself(self):
        self.assert_no_sheet([(0, 0)], [((0, 0), (0, 0), 0)], ("join", 0))
        self.assert_no_sheet(ROW[:2], [ROW_JOINS[0], ((1, 0), (1, 0), 1)], ("join", 1))

    def test_another_bend(self):
        for bend in [2, -2, 3, -3, 10 ** 30, -10 ** 30]:
            self.assert_no_sheet(ROW[:2], [((0, 0), (1, 0), bend)], ("join", 0))
            self.assert_no_sheet(ROW[:3], [ROW_JOINS[0], ((2, 0), (1, 0), bend)], ("join", 1))

    def test_a_truth_is_no_bend(self):
        for bend in [True, False]:
            self.assert_no_sheet(ROW[:2], [((0, 0), (1, 0), bend)], ("join", 0))

    def test_a_join_told_twice(self):
        for bend in BENDS:
            self.assert_no_sheet(ROW[:2], [ROW_JOINS[0], ((0, 0), (1, 0), bend)], ("join", 1))
            self.assert_no_sheet(ROW[:2], [ROW_JOINS[0], ((1, 0), (0, 0), bend)], ("join", 1))
        self.assert_no_sheet(ROW[:4], ROW_JOINS[:3] + ROW_JOINS[:2], ("join", 3))

    def test_the_first_of_several_wrong_joins(self):
        wrong = [((0, 0), (2, 0), 0), ((0, 0), (1, 0), 5), ((0, 0), (0, 1), 0), ((1, 0), (0, 0), 1)]
        for one in wrong:
            for other in wrong:
                self.assert_no_sheet(ROW[:3], ROW_JOINS[:2] + [one, other], ("join", 2))
                self.assert_no_sheet(ROW[:3], ROW_JOINS[:1] + [one] + ROW_JOINS[1:2] + [other], ("join", 1))

    def test_the_first_join_at_fault_behind_a_hundred(self):
        cells = [(x, y) for x in range(5) for y in range(5)]
        joins = [(c, d, 0) for c in cells for d in around(c)[:2] if d in cells]
        self.assert_no_sheet(cells, joins + [((0, 0), (1, 0), 0)] * 60, ("join", 40))

    def test_apart(self):
        self.assert_no_sheet(ROW[:2], [], ("apart", 1))
        self.assert_no_sheet(ROW[:3], ROW_JOINS[1:2], ("apart", 1))
        self.assert_no_sheet(ROW[:3], ROW_JOINS[:1], ("apart", 2))
        self.assert_no_sheet([(5, 5), (0, 0)], [], ("apart", 1))
        cells = [(0, 0), (0, 1), (1, 0), (1, 1)]
        self.assert_no_sheet(cells, [(cells[0], cells[2], 0), (cells[1], cells[3], 0)], ("apart", 1))
        self.assert_no_sheet(cells[::-1], [(cells[3], cells[1], 0), (cells[2], cells[0], 0)], ("apart", 1))
        self.assert_no_sheet(ROW[:26], ROW_JOINS[:24], ("apart", 25))

    def test_apart_by_one_join_that_is_left_out(self):
        for cells, joins in MANY_PARTS:
            order = sorted(cells)
            for k in range(0, len(joins), 5):
                left = joins[:k] + joins[k + 1:]
                reached = {order[0]}
                for _ in order:
                    reached |= {d for c, d, bend in left if c in reached} | {c for c, d, bend in left if d in reached}
                apart = [number for number, cell in enumerate(order) if cell not in reached]
                if apart:
                    self.assert_no_sheet(cells, left, ("apart", apart[0]))
                else:
                    self.assertEqual(sheet_of(cells, left), plain_sheet(cells, left))


class SeveralFaults(Refusals):
    """Which fault goes ahead: count, twice, join, apart."""

    WRONG = ((0, 0), (2, 0), 0)

    def test_count_goes_ahead_of_all(self):
        many = ROW[:27]
        self.assert_no_sheet(many + [(3, 0)], ROW_JOINS[:26], ("count", 28))
        self.assert_no_sheet(many, [self.WRONG] + ROW_JOINS[:26], ("count", 27))
        self.assert_no_sheet(many, ROW_JOINS[:25], ("count", 27))
        self.assert_no_sheet([(0, 0)] * 60, [self.WRONG], ("count", 60))
        self.assert_no_sheet([], [self.WRONG], ("count", 0))
        self.assert_no_sheet(many + [(3, 0)], [self.WRONG], ("count", 28))

    def test_more_than_twenty_six_told_but_not_as_many_unlike_ones(self):
        self.assert_no_sheet(ROW[:26] + [(3, 0)], ROW_JOINS[:25], ("count", 27))

    def test_twice_goes_ahead_of_join_and_apart(self):
        self.assert_no_sheet(ROW[:3] + [(1, 0)], [self.WRONG] + ROW_JOINS[:2], ("twice", (1, 0)))
        self.assert_no_sheet(ROW[:3] + [(2, 0)], ROW_JOINS[:1], ("twice", (2, 0)))
        self.assert_no_sheet(ROW[:3] + [(2, 0)], [self.WRONG], ("twice", (2, 0)))

    def test_join_goes_ahead_of_apart(self):
        self.assert_no_sheet(ROW[:3], [ROW_JOINS[0], self.WRONG], ("join", 1))
        self.assert_no_sheet(ROW[:3], [((0, 0), (1, 0), 2)], ("join", 0))
        self.assert_no_sheet(ROW[:3], [ROW_JOINS[0], ROW_JOINS[0]], ("join", 1))
        self.assert_no_sheet(ROW[:2], [((1, 0), (2, 0), 0)], ("join", 0))


class Neighbours(unittest.TestCase):
    def test_by_hand(self):
        cells = [(1, 1), (0, 1), (2, 1), (1, 0), (1, 2)]
        sheet = sheet_of(cells, [((1, 1), cell, bend) for cell, bend in zip(cells[1:], [0, 1, -1, 1])])
        self.assertEqual(sheet[0], [(0, 1), (1, 0), (1, 1), (1, 2), (2, 1)])
        self.assertEqual(neighbours(sheet, 2), [(0, 4, 1), (1, 3, 1), (2, 0, 0), (3, 1, -1)])
        self.assertEqual(neighbours(sheet, 0), [(0, 2, 0)])
        self.assertEqual(neighbours(sheet, 1), [(1, 2, -1)])
        self.assertEqual(neighbours(sheet, 3), [(3, 2, 1)])
        self.assertEqual(neighbours(sheet, 4), [(2, 2, 1)])

    def test_none_of_a_single_cell(self):
        self.assertEqual(neighbours(([(4, 4)], []), 0), [])

    def test_none_where_slit(self):
        sheet = ([(0, 0), (0, 1), (1, 0), (1, 1)], [(0, 1, 0), (1, 3, 0), (2, 3, 0)])
        self.assertEqual(neighbours(sheet, 0), [(1, 1, 0)])
        self.assertEqual(neighbours(sheet, 2), [(1, 3, 0)])

    def test_all_samples(self):
        for cells, joins in SHEETS:
            for k, cell in enumerate(cells):
                want = []
                for way, other in enumerate(around(cell)):
                    for i, j, bend in joins:
                        if {cells[i], cells[j]} == {cell, other}:
                            want.append((way, cells.index(other), bend))
                told = neighbours((cells, joins), k)
                self.assertEqual(repr(told), repr(want))


class Bends(unittest.TestCase):
    def test_by_hand(self):
        sheet = ([(0, 0), (0, 1), (1, 0)], [(0, 1, 1), (0, 2, -1)])
        self.assertEqual(bends_of(sheet), [1, -1])
        self.assertEqual(with_bends(sheet, [0, 1]), ([(0, 0), (0, 1), (1, 0)], [(0, 1, 0), (0, 2, 1)]))
        self.assertEqual(bends_of(([(0, 0)], [])), [])
        self.assertEqual(with_bends(([(0, 0)], []), []), ([(0, 0)], []))

    def test_all_samples(self):
        draws = Draws(3)
        for sheet in SHEETS:
            cells, joins = sheet
            told = bends_of(sheet)
            self.assertEqual(repr(told), repr([bend for i, j, bend in joins]))
            bends = [draws.one_of(BENDS) for _ in joins]
            anew = with_bends(sheet, bends)
            want = (cells, [(joins[k][0], joins[k][1], bends[k]) for k in range(len(joins))])
            self.assertEqual(repr(anew), repr(want))
            self.assertEqual(bends_of(anew), bends)
            self.assertEqual(with_bends(anew, told), sheet)


class Shifted(unittest.TestCase):
    def test_by_hand(self):
        sheet = ([(0, 0), (0, 1)], [(0, 1, -1)])
        self.assertEqual(shifted(sheet, (3, -5)), ([(3, -5), (3, -4)], [(0, 1, -1)]))
        self.assertEqual(shifted(sheet, (0, 0)), sheet)

    def test_all_samples(self):
        for cells, joins in SMALL[::7] + MANY:
            for a, b in [(0, 0), (1, -1), (-7, 2), (10 ** 30, -10 ** 30)]:
                told = shifted((cells, joins), (a, b))
                self.assertEqual(repr(told), repr(([(x + a, y + b) for x, y in cells], joins)))
                self.assertEqual(shifted(told, (-a, -b)), (cells, joins))


class Keeping(unittest.TestCase):
    def test_sheet_of(self):
        for cells, joins in SMALL_PARTS[::20] + MANY_PARTS[::3]:
            ask_and_wreck(self, sheet_of, cells, joins)
            ask_and_wreck(self, sheet_of, sorted(cells), sorted(joins))

    def test_the_others(self):
        for sheet in SMALL[::20] + MANY[::3]:
            ask_and_wreck(self, neighbours, sheet, len(sheet[0]) - 1)
            ask_and_wreck(self, bends_of, sheet)
            ask_and_wreck(self, with_bends, sheet, [0] * len(sheet[1]))
            ask_and_wreck(self, with_bends, sheet, [bend for i, j, bend in sheet[1]])
            ask_and_wreck(self, shifted, sheet, (1, 2))
            ask_and_wreck(self, shifted, sheet, (0, 0))


if __name__ == "__main__":
    unittest.main()
