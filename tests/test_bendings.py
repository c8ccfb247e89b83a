"""Points 28 and 29: sheetfold.bendings."""

import unittest

from bend_samples import (
    CASES, CROSS, LAID, TWO_WAYS, bent, fixed_bends, part_of, plain_closings, plain_is_clash, plain_step,
)
from keeping import ask_and_wreck, refused_and_kept
from samples import BIG
from sheet_samples import BENDS, MANY, SMALL, plain_is_ring
from sheetfold.bendings import bendings
from sheetfold.drawings import sheet_read
from sheetfold.errors import NoBend, TooMany
from sheetfold.folding import folded
from sheetfold.squares import closing

ONE = sheet_read("#")
TWO = sheet_read("#^#")
FOUR = sheet_read("#+#/+.+/#+#")
TOLD = [(sheet, free, bendings(sheet, free)) for sheet, free in CASES]


def walk(paper, chosen):
    """All tuples of a paper, each with the bends chosen on the way to it, P ahead of Q ahead of R."""
    found = [(paper, chosen)]
    if paper[0] == "bend":
        for bend, part in zip(BENDS, paper[3:]):
            found += walk(part, {**chosen, paper[1:3]: bend})
    return found


def places_beyond(sheet):
    return [-1, -2, len(sheet[1]), len(sheet[1]) + 1, BIG, -BIG]


class ByHand(unittest.TestCase):
    def test_one_cell(self):
        self.assertEqual(bendings(ONE, []), ([], ("open", (0, 1, 0))))

    def test_two_cells(self):
        self.assertEqual(bendings(TWO, []), ([], ("open", (0, 1, 0))))
        ends = (("open", (0, 1, 0)), ("open", (0, 1, 0)), ("open", (0, 1, 0)))
        self.assertEqual(bendings(TWO, [0]), ([], ("bend", 0, 1, *ends)))

    def test_the_least_open_edge_of_each_way(self):
        sheet = sheet_read("#/+/#")
        closings, paper = bendings(sheet, [0])
        self.assertEqual(paper, ("bend", 0, 1, ("open", (0, 1, 0)), ("open", (0, 1, 0)), ("open", (0, 1, 0))))
        closings, paper = bendings(sheet_read("#+#^#"), [1])
        self.assertEqual(paper[3:], (("open", (0, 1, 0)),) * 3)

    def test_a_cube_closes_up_and_down(self):
        closings, paper = bendings(CROSS, [0, 1, 2, 3, 4])
        self.assertEqual(closings, [[-1] * 5, [1] * 5])
        self.assertEqual(bendings(CROSS, []), ([[1] * 5], ("closed", [(0, 0, 0)])))
        self.assertEqual(bendings(CROSS, [3])[0], [[1] * 5])
        self.assertEqual(bendings(bent(CROSS, [-1] * 5), []), ([[-1] * 5], ("closed", [(0, 0, -1)])))

    def test_a_square_of_four(self):
        closings, paper = bendings(FOUR, [2])
        self.assertEqual((closings, paper[:3], paper[4]), ([], ("bend", 1, 3), ("open", (0, 1, 0))))
        for end in [paper[3], paper[5]]:
            self.assertEqual((end[0], sorted(end[1])), ("ring", [0, 1, 2, 3]))

    def test_a_row_of_five(self):
        sheet = sheet_read("#^#^#^#^#")
        closings, paper = bendings(sheet, [])
        self.assertEqual((closings, paper[0], {paper[1][0], paper[1][-1]}), ([], "clash", {0, 4}))
        closings, paper = bendings(sheet, [3])
        self.assertEqual([part[0] for part in paper[3:]], ["open", "open", "clash"])

    def test_cells_are_laid_by_the_least_number_not_by_the_nearest(self):
        # Cell 1 is joined with cell 3 alone, and that with 0: so 2 is laid first, then 3, then 1.
        sheet = sheet_read("#+#/..+/#+#")
        self.assertEqual(sheet[0], [(0, 0), (0, 1), (1, 0), (1, 1)])
        self.assertEqual(sheet[1], [(0, 2, 0), (1, 3, 0), (2, 3, 0)])
        closings, paper = bendings(sheet, [0, 1, 2])
        self.assertEqual((paper[:3], paper[3][:3]), (("bend", 0, 2), ("bend", 2, 3)))
        self.assertEqual([part[:3] for part in paper[3][3:]], [("bend", 1, 3)] * 3)

    def test_the_least_cell_not_laid_goes_ahead_though_another_was_reached_earlier(self):
        # Cell 4 is joined with 2 and could be laid ahead of 1, which is joined with 3 alone.
        sheet = sheet_read("#+#../..+../#+#+#")
        paper = bendings(sheet, [0, 1, 2, 3])[1]
        chosen = []
        while paper[0] == "bend":
            chosen.append(paper[1:3])
            paper = paper[4]
        self.assertEqual((chosen, paper), ([(0, 2), (2, 3), (1, 3), (2, 4)], ("open", (0, 1, 0))))


class Samples(unittest.TestCase):
    def test_choices_and_ends_as_point_28_says(self):
        for sheet, free, (closings, paper) in TOLD:
            for part, chosen in walk(paper, fixed_bends(sheet, free)):
                want = plain_step(sheet, chosen)
                if part[0] == "bend":
                    self.assertEqual((len(part), repr(part[:3])), (6, repr(want)))
                elif part[0] in ("ring", "clash"):
                    self.assertEqual((len(part), part[:1]), (2, want))
                else:
                    self.assertEqual(repr(part), repr(want))

    def test_rings_and_clashes_of_chosen_joins_alone(self):
        counts = {"ring": 0, "clash": 0}
        for sheet, free, (closings, paper) in TOLD:
            for part, chosen in walk(paper, fixed_bends(sheet, free)):
                if part[0] in counts:
                    counts[part[0]] += 1
                    self.assertTrue(type(part[1]) is list and all(type(k) is int for k in part[1]))
                    holds = plain_is_ring if part[0] == "ring" else plain_is_clash
                    self.assertTrue(holds(part_of(sheet, chosen), part[1]), (sheet, free, part))
        self.assertGreater(min(counts.values()), 100)

    def test_closings_against_all_ways(self):
        for sheet, free, (closings, paper) in TOLD:
            self.assertEqual(repr(closings), repr(plain_closings(sheet, free)))

    def test_closings_are_just_those_of_the_closed_ends(self):
        for sheet, free, (closings, paper) in TOLD:
            ends = []
            for part, chosen in walk(paper, fixed_bends(sheet, free)):
                if part[0] == "closed":
                    ends.append([chosen[join[:2]] for join in sheet[1]])
            self.assertEqual(closings, sorted(ends))

    def test_closings_rise_though_they_are_found_in_another_order(self):
        closings, paper = bendings(TWO_WAYS, [2, 3, 6, 7, 8, 9])
        found = []
        for part, chosen in walk(paper, fixed_bends(TWO_WAYS, [2, 3, 6, 7, 8, 9])):
            if part[0] == "closed":
                found.append([chosen[join[:2]] for join in TWO_WAYS[1]])
        self.assertEqual((len(found), closings), (2, found[::-1]))
        self.assertLess(closings[0], closings[1])

    def test_each_closing_folds_closed(self):
        for sheet, free, (closings, paper) in TOLD:
            for bends in closings:
                kind, poses = folded(bent(sheet, bends))
                self.assertEqual((kind, closing([pose[0] for pose in poses])[0]), ("folded", "closed"))

    def test_where_no_bend_is_chosen_the_paper_is_an_end_alone(self):
        for sheet in SMALL[::20] + MANY[::5] + LAID:
            self.assertIn(bendings(sheet, [])[1][0], ["ring", "clash", "open", "closed"])
        # The row of five clashes ahead of the free join behind it.
        self.assertEqual(bendings(sheet_read("#^#^#^#^#+#"), [4])[1][0], "clash")

    def test_a_free_joins_own_bend_does_not_count(self):
        for sheet, free, told in TOLD[::5]:
            for bend in BENDS:
                bends = [bend if k in free else join[2] for k, join in enumerate(sheet[1])]
                self.assertEqual(bendings(bent(sheet, bends), free), told)

    def test_what_was_laid_flat_closes_again(self):
        for sheet, free, (closings, paper) in TOLD:
            if sheet in LAID:
                self.assertIn([join[2] for join in sheet[1]], closings)

    def test_many_kinds_are_among_them(self):
        self.assertEqual({len(free) for sheet, free, told in TOLD}, {0, 1, 2, 3, 4, 5, 6})
        self.assertGreater(sum(len(told[0]) > 1 for sheet, free, told in TOLD), 3)
        rings = [sheet for sheet, free, told in TOLD if len(sheet[1]) >= len(sheet[0]) and told[0]]
        self.assertGreater(len(rings), 5)


class Refused(unittest.TestCase):
    LONG = sheet_read("#+#+#+#+#+#+#+#+#")

    def test_six_are_not_too_many(self):
        self.assertEqual(bendings(self.LONG, [0, 1, 2, 3, 4, 5])[1][:3], ("bend", 0, 1))
        self.assertEqual(bendings(self.LONG, [2, 3, 4, 5, 6, 7])[1][:3], ("bend", 2, 3))

    def test_seven_are_too_many(self):
        refused_and_kept(self, TooMany, bendings, self.LONG, [0, 1, 2, 3, 4, 5, 6])
        refused_and_kept(self, TooMany, bendings, self.LONG, list(range(8)))

    def test_too_many_goes_ahead_of_no_bend(self):
        for free in [[6, 5, 4, 3, 2, 1, 0], [0] * 7, [-1] * 7, [0, 1, 2, 3, 4, 5, 99], [BIG] * 60, list(range(-7, 0))]:
            refused_and_kept(self, TooMany, bendings, self.LONG, free)
        refused_and_kept(self, TooMany, bendings, ONE, list(range(7)))

    def test_lists_that_do_not_rise(self):
        for free in [[1, 0], [0, 2, 1], [5, 4, 3, 2, 1, 0], [0, 1, 2, 3, 5, 4]]:
            refused_and_kept(self, NoBend, bendings, self.LONG, free)

    def test_a_place_twice(self):
        for free in [[0, 0], [0, 1, 1, 2], [7, 7], [0, 1, 2, 3, 4, 4]]:
            refused_and_kept(self, NoBend, bendings, self.LONG, free)

    def test_places_of_no_join(self):
        for sheet in [ONE, TWO, FOUR, self.LONG, CROSS]:
            for place in places_beyond(sheet):
                refused_and_kept(self, NoBend, bendings, sheet, [place])
                for free in [[0, place], [place, 0]]:
                    refused_and_kept(self, NoBend, bendings, sheet, free)

    def test_the_last_place_is_one(self):
        for sheet in [TWO, FOUR, CROSS]:
            self.assertEqual(len(bendings(sheet, [len(sheet[1]) - 1])), 2)


class Keeping(unittest.TestCase):
    def test_what_is_handed_in_and_told(self):
        for sheet, free in CASES[::6]:
            ask_and_wreck(self, bendings, sheet, free)
        ask_and_wreck(self, bendings, CROSS, [])
        ask_and_wreck(self, bendings, CROSS, [0, 1, 2, 3, 4])

    def test_no_list_is_told_twice(self):
        for sheet, free, (closings, paper) in TOLD:
            lists = [part[1] for part, chosen in walk(paper, {}) if type(part[1]) is list] + closings + [closings]
            self.assertEqual(len({id(one) for one in lists}), len(lists))


if __name__ == "__main__":
    unittest.main()
