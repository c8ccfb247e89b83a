"""Points 16, 18, 29 and 30: sheetfold.papers."""

import itertools
import unittest

from bend_samples import (
    CASES, CROSS, LAID, STAIR, bent, fixed_bends, part_of, plain_closing, plain_holds, plain_is_clash, plain_step,
)
from keeping import ask_and_wreck
from samples import BIG
from sheet_samples import BENDS, START, Draws, plain_folded, plain_is_ring, plain_way, quick_led
from sheetfold.bendings import bendings
from sheetfold.drawings import sheet_read
from sheetfold.papers import ends_of, paper_holds

TWO = sheet_read("#^#")
FOUR = sheet_read("#+#/+.+/#+#")
ROW = sheet_read("#^#^#^#^#+#")
OPEN = ("open", (0, 1, 0))
SOME = [(sheet, free) for sheet, free in CASES if len(free) <= 4][::3] + [(CROSS, [0, 1, 2, 3, 4]), (FOUR, [0, 1, 2, 3])]


def bad_part(part):
    """A ring or clash of a sheet with the chosen joins alone, by ways through one cell, or None."""
    seen = set()
    for root in range(len(part[0])):
        if root in seen:
            continue
        paths, poses = {root: [root]}, {root: START}
        while True:
            steps = [(i, j, bend) for a, b, bend in part[1] for i, j in [(a, b), (b, a)] if i in paths]
            new = [step for step in steps if step[1] not in paths]
            if not new:
                break
            i, j, bend = new[-1]
            paths[j], poses[j] = paths[i] + [j], quick_led(bend, poses[i], plain_way(part, i, j))
        for i, j, bend in steps:
            if quick_led(bend, poses[i], plain_way(part, i, j)) != poses[j]:
                return ("ring", paths[i][::-1] + paths[j][1:])
        for i, j in itertools.combinations(sorted(poses), 2):
            if poses[i][0] == poses[j][0]:
                return ("clash", paths[j][::-1] + paths[i][1:])
        seen |= set(paths)
    return None


def paper_in_any_order(draws, sheet, free, chosen):
    """A paper that chooses the free joins in whatever order, and ends at once or later."""
    left = [sheet[1][k][:2] for k in free if sheet[1][k][:2] not in chosen]
    end = bad_part(part_of(sheet, chosen))
    if end is not None and (not left or draws.below(3)):
        return end
    if not left:
        return plain_closing([pose[0] for pose in plain_folded(part_of(sheet, chosen))[1]])
    pair = draws.one_of(left)
    parts = [paper_in_any_order(draws, sheet, free, {**chosen, pair: bend}) for bend in BENDS]
    return ("bend", *pair, *parts)


def ways_within(paper):
    """The ways to all tuples of a paper, each a list of places in tuples."""
    found = [[]]
    if paper[0] == "bend":
        for k in (3, 4, 5):
            found += [[k] + way for way in ways_within(paper[k])]
    return found


def taken(paper, way):
    for k in way:
        paper = paper[k]
    return paper


def put(paper, way, new):
    if not way:
        return new
    return paper[:way[0]] + (put(paper[way[0]], way[1:], new),) + paper[way[0] + 1:]


def lists_beside(draws, numbers, count):
    strange = [-1, -count, count, BIG, -BIG, 10 ** 40, draws.below(count)]
    found = [[], numbers[:1], numbers[:-1], numbers[1:], numbers[::-1], numbers * 2, numbers + numbers[:1]]
    found += [numbers + numbers[-1:], numbers[1:] + numbers[:1], [-1], [BIG]]
    for k in range(len(numbers)):
        found.append(numbers[:k] + [draws.one_of(strange)] + numbers[k + 1:])
        found.append(numbers[:k] + [draws.one_of(strange)] + numbers[k:])
        found.append(numbers[:k] + numbers[k + 1:])
    return found


def spots_beside(draws, spot):
    step = draws.one_of([1, -1, 2, -2, BIG])
    return [tuple(n + step * (k == axis) for k, n in enumerate(spot)) for axis in range(3)]


def cubes_beside(draws, cubes):
    found = [[], cubes[:-1], cubes[1:], cubes + cubes[-1:], cubes + [(9, 9, 9)]]
    found += [cubes[:-1] + [spot] for spot in spots_beside(draws, cubes[-1])]
    return found + ([cubes[::-1]] if len(cubes) > 1 else [])


def bends_beside(draws, paper, joins):
    bend, i, j, *parts = paper
    pairs = [(j, i), (i, i), (i, BIG), (-BIG, j), (i - 1, j), (i, j + 1), (-1, 0)] + [join[:2] for join in joins]
    found = [(bend, *pair, *parts) for pair in pairs]
    found += [(bend, i, j, *order) for order in itertools.permutations(parts)]
    return found + parts + [(bend, i, j, paper, *parts[1:]), (bend, i, j, *parts[:2], paper)]


def things_beside(draws, paper, sheet):
    """What might stand in a paper's place, most of it wrong."""
    if paper[0] == "bend":
        return bends_beside(draws, paper, sheet[1]) + [OPEN, ("closed", []), ("closed", [(0, 0, 0)]), ("ring", [0, 1])]
    if paper[0] in ("ring", "clash"):
        found = [(paper[0], numbers) for numbers in lists_beside(draws, paper[1], len(sheet[0]))]
    elif paper[0] == "open":
        found = [("open", spot) for spot in spots_beside(draws, paper[1])]
    else:
        found = [("closed", cubes) for cubes in cubes_beside(draws, paper[1])]
    found += [(word, paper[1]) for word in ["ring", "clash", "open", "closed", "shut", "Ring", ""]]
    joins = [("bend", *join[:2], paper, paper, paper) for join in sheet[1][:6]]
    return found + joins + [OPEN, ("closed", []), ("ring", [0]), ("clash", [0])]


class Holds(unittest.TestCase):
    def test_what_bendings_tells(self):
        for sheet, free in CASES:
            self.assertIs(paper_holds(sheet, free, bendings(sheet, free)[1]), True)

    def test_the_free_joins_chosen_in_another_order(self):
        draws = Draws(71)
        unlike = 0
        for sheet, free in CASES:
            if len(free) <= 4:
                paper = paper_in_any_order(draws, sheet, free, fixed_bends(sheet, free))
                self.assertIs(paper_holds(sheet, free, paper), True, (sheet, free, paper))
                unlike += paper != bendings(sheet, free)[1]
        self.assertGreater(unlike, 50)

    def test_six_free_joins_in_another_order(self):
        draws = Draws(72)
        for sheet, free in [case for case in CASES if len(case[1]) > 4][::8]:
            paper = paper_in_any_order(draws, sheet, free, fixed_bends(sheet, free))
            self.assertIs(paper_holds(sheet, free, paper), True)

    def test_by_hand(self):
        self.assertIs(paper_holds(TWO, [], OPEN), True)
        self.assertIs(paper_holds(TWO, [0], ("bend", 0, 1, OPEN, OPEN, OPEN)), True)
        self.assertIs(paper_holds(FOUR, [], OPEN), True)
        ring = ("ring", [3, 1, 0, 2])
        self.assertIs(paper_holds(FOUR, [0], ("bend", 0, 1, ring, OPEN, ring)), True)
        self.assertIs(paper_holds(CROSS, [], ("closed", [(0, 0, 0)])), True)

    def test_a_ring_may_go_to_and_fro(self):
        sheet = sheet_read("#^#+#/+.+../#+#..")
        for numbers in [[0, 1, 3, 2], [0, 1, 3, 4, 3, 2], [3, 2, 0, 1], [0, 2, 0, 1, 3, 2], [2, 3, 1, 0]]:
            self.assertIs(paper_holds(sheet, [], ("ring", numbers)), True, numbers)

    def test_a_clash_may_go_to_and_fro(self):
        for numbers in [[0, 1, 2, 3, 4], [4, 3, 2, 1, 0], [0, 1, 0, 1, 2, 3, 4, 5, 4]]:
            self.assertIs(paper_holds(ROW, [], ("clash", numbers)), True, numbers)

    def test_a_bend_that_need_not_have_been_chosen(self):
        clash = ("clash", [0, 1, 2, 3, 4])
        self.assertIs(paper_holds(ROW, [4], clash), True)
        self.assertIs(paper_holds(ROW, [4], ("bend", 4, 5, clash, clash, clash)), True)


class DoesNotHold(unittest.TestCase):
    def assert_false(self, sheet, free, paper):
        self.assertIs(plain_holds(sheet, free, paper), False)
        self.assertIs(paper_holds(sheet, free, paper), False)

    def test_wrong_ends(self):
        for paper in [("open", (0, 1, 1)), ("open", (0, 1, 2)), ("open", (2, 1, 0)), ("open", (BIG, 1, 0))]:
            self.assert_false(TWO, [], paper)
        for paper in [("closed", []), ("closed", [(0, 0, 0)]), ("ring", [0, 1]), ("clash", [0, 1]), ("clash", [1])]:
            self.assert_false(TWO, [], paper)
        for cubes in [[], [(0, 0, 1)], [(0, 0, 0), (0, 0, 0)], [(0, 0, 0), (0, 0, 1)], [(0, 0, BIG)]]:
            self.assert_false(CROSS, [], ("closed", cubes))
        self.assert_false(CROSS, [], OPEN)

    def test_another_word(self):
        self.assert_false(TWO, [], ("opened", (0, 1, 0)))
        self.assert_false(CROSS, [], ("close", [(0, 0, 0)]))
        self.assert_false(ROW, [], ("ring", [0, 1, 2, 3, 4]))
        bent_four = bent(FOUR, [1, 0, 0, 0])
        self.assertIs(paper_holds(bent_four, [], ("ring", [0, 1, 3, 2])), True)
        self.assert_false(bent_four, [], ("clash", [0, 1, 3, 2]))

    def test_a_ring_or_clash_is_a_list(self):
        self.assert_false(bent(FOUR, [1, 0, 0, 0]), [], ("ring", (0, 1, 3, 2)))
        self.assert_false(ROW, [], ("clash", (0, 1, 2, 3, 4)))

    def test_clash_lists_that_are_none(self):
        wrong = [[], [0], [4], [9], [-1], [0, 0], [0, 1], [0, 1, 2, 3], [1, 2, 3, 4], [0, 1, 2, 3, 4, 5], [0, 4], [0, 4, 0]]
        wrong += [[0, 1, 2, 3, 3, 4], [0, 1, 2, 3, 4, 3, 2, 1, 0], [5, 4, 3, 2, 1, 0], [-6, -5, -4, -3, -2]]
        wrong += [[0, 1, 2, 3, BIG], [0, 1, 2, 3, -2]]
        for numbers in wrong:
            self.assert_false(ROW, [], ("clash", numbers))

    def test_ring_lists_that_are_none(self):
        for numbers in [[], [0], [7], [0, 1], [0, 1, 3], [0, 1, 2, 3], [0, 1, 3, 2, 0], [-4, -3, -1, -2], [0, 1, 3, BIG]]:
            self.assert_false(bent(FOUR, [1, 0, 0, 0]), [], ("ring", numbers))
        self.assert_false(FOUR, [], ("ring", [0, 1, 3, 2]))

    def test_rings_and_clashes_need_chosen_joins(self):
        bent_four = bent(FOUR, [1, 0, 0, 0])
        for free in [[0], [1], [3], [0, 1, 2, 3]]:
            self.assert_false(bent_four, free, ("ring", [0, 1, 3, 2]))
        for free in [[0], [3], [0, 1, 2, 3]]:
            self.assert_false(ROW, free, ("clash", [0, 1, 2, 3, 4]))

    def test_the_chosen_bend_counts_not_the_old_one(self):
        ring = ("ring", [0, 1, 3, 2])
        self.assertIs(paper_holds(bent(FOUR, [1, 0, 0, 0]), [0], ("bend", 0, 1, ring, OPEN, ring)), True)
        self.assert_false(bent(FOUR, [1, 0, 0, 0]), [0], ("bend", 0, 1, ring, ring, ring))
        self.assert_false(bent(FOUR, [1, 0, 0, 0]), [0], ("bend", 0, 1, ring, OPEN, OPEN))

    def test_parts_exchanged(self):
        closings, paper = bendings(CROSS, [2])
        self.assertEqual([part[0] for part in paper[3:]], ["open", "open", "closed"])
        for order in itertools.permutations(paper[3:]):
            if order[2] != paper[5]:
                self.assert_false(CROSS, [2], ("bend", *paper[1:3], *order))

    def test_joins_that_may_not_be_chosen(self):
        self.assert_false(TWO, [], ("bend", 0, 1, OPEN, OPEN, OPEN))
        self.assert_false(TWO, [0], ("bend", 1, 0, OPEN, OPEN, OPEN))
        again = ("bend", 0, 1, OPEN, OPEN, OPEN)
        for k in range(3):
            parts = [again if k == m else OPEN for m in range(3)]
            self.assert_false(TWO, [0], ("bend", 0, 1, *parts))
        flat = sheet_read("#+#+#")
        inner = ("bend", 1, 2, OPEN, OPEN, OPEN)
        first = ("bend", 1, 2, ("open", (0, 1, -2)), OPEN, OPEN)
        self.assertIs(paper_holds(flat, [0, 1], ("bend", 0, 1, first, inner, inner)), True)
        self.assert_false(flat, [0], ("bend", 0, 1, first, inner, inner))
        self.assert_false(flat, [1], ("bend", 0, 1, first, inner, inner))
        for pair in [(0, 2), (2, 3), (-3, -2), (BIG, BIG + 1), (0, BIG), (0, 0), (1, 0)]:
            self.assert_false(flat, [0, 1], ("bend", *pair, first, inner, inner))

    def test_an_end_ahead_of_a_free_join_that_is_not_chosen(self):
        self.assert_false(TWO, [0], OPEN)
        self.assert_false(CROSS, [0], ("closed", [(0, 0, 0)]))
        self.assert_false(CROSS, [0, 1, 2, 3, 4], ("closed", [(0, 0, 0)]))
        # All three ways are alike open, yet each is to be told.
        self.assert_false(sheet_read("#+#+#"), [0, 1], ("bend", 0, 1, OPEN, OPEN, OPEN))

    def test_a_part_in_the_place_of_the_whole(self):
        for sheet, free in [(CROSS, [0, 1, 2, 3, 4]), (STAIR, [0, 1, 2]), (TWO, [0])]:
            paper = bendings(sheet, free)[1]
            for part in paper[3:]:
                self.assert_false(sheet, free, part)

    def test_an_open_or_closed_end_of_a_sheet_that_is_not_folded(self):
        bent_four = bent(FOUR, [1, 0, 0, 0])
        self.assert_false(bent_four, [], OPEN)
        self.assert_false(ROW, [], OPEN)
        self.assert_false(ROW, [], ("closed", []))
        # A clash of two alike rows: its squares, each once, would close nothing, but none is left odd either.
        sheet = sheet_read("#^#^#^#^#^#^#^#")
        self.assert_false(sheet, [], ("closed", []))
        self.assert_false(sheet, [], plain_closing([(1, 1, 0)]))

    def test_one_wrong_end_of_many(self):
        sheet, free = CROSS, [0, 1, 2, 3, 4]
        paper = bendings(sheet, free)[1]
        for way in [way for way in ways_within(paper) if taken(paper, way)[0] != "bend"][::4]:
            self.assertIs(paper_holds(sheet, free, put(paper, way, ("open", (1, 1, 1)))), False)

    def test_forty_tuples_within_one_another(self):
        for k in (3, 4, 5):
            for end in [OPEN, ("closed", []), ("ring", [0, 1])]:
                paper = end
                for _ in range(39):
                    paper = put(("bend", 0, 1, end, end, end), [k], paper)
                self.assert_false(TWO, [0], paper)
                self.assert_false(TWO, [], paper)
        whole = OPEN
        for _ in range(39):
            whole = ("bend", 0, 1, whole, whole, whole)
        self.assertIs(paper_holds(TWO, [0], whole), False)


class Beside(unittest.TestCase):
    def assert_as_reckoned(self, draws, sheet, free, paper, share):
        truths = []
        for way in ways_within(paper):
            for thing in things_beside(draws, taken(paper, way), sheet):
                if draws.below(share) == 0:
                    other = put(paper, way, thing)
                    truths.append(paper_holds(sheet, free, other))
                    self.assertIs(truths[-1], plain_holds(sheet, free, other), (sheet, free, other))
        return truths

    def test_papers_with_one_thing_changed(self):
        draws = Draws(73)
        truths = []
        for sheet, free in SOME:
            # Of papers with many tuples few things are tried.
            share = {0: 1, 1: 6, 2: 50}.get(len(free), 400)
            truths += self.assert_as_reckoned(draws, sheet, free, bendings(sheet, free)[1], share)
            if len(free) <= 3:
                paper = paper_in_any_order(draws, sheet, free, fixed_bends(sheet, free))
                truths += self.assert_as_reckoned(draws, sheet, free, paper, share)
        self.assertGreater(truths.count(True), 100)
        self.assertGreater(truths.count(False), 1000)

    def test_the_papers_of_other_free_places_and_other_sheets(self):
        draws = Draws(74)
        for sheet, free in SOME:
            paper = bendings(sheet, free)[1]
            for other in [free[1:], free[:-1], sorted(set(free + [draws.below(1 + len(sheet[1]))]))]:
                if all(k < len(sheet[1]) for k in other):
                    self.assertIs(paper_holds(sheet, other, paper), plain_holds(sheet, other, paper))
            bends = [draws.one_of(BENDS) for join in sheet[1]]
            self.assertIs(paper_holds(bent(sheet, bends), free, paper), plain_holds(bent(sheet, bends), free, paper))


class Ends(unittest.TestCase):
    def test_of_an_end_itself_alone(self):
        for end in [OPEN, ("closed", []), ("closed", [(0, 0, 0), (0, 0, 1)]), ("ring", [0, 1]), ("clash", [0, 1, 2])]:
            self.assertEqual(repr(ends_of(end)), repr([end]))

    def test_in_their_order(self):
        ends = [("open", (k, 0, 0)) for k in range(9)]
        self.assertEqual(ends_of(("bend", 0, 1, *ends[:3])), ends[:3])
        deep = ("bend", 0, 1, ("bend", 1, 2, *ends[:3]), ("bend", 5, 6, *ends[3:6]), ("bend", 7, 8, *ends[6:]))
        self.assertEqual(ends_of(deep), ends)
        self.assertEqual(ends_of(("bend", 0, 1, ends[0], ("bend", 1, 2, *ends[1:4]), ends[4])), ends[:5])
        self.assertEqual(ends_of(("bend", 0, 1, ends[0], ends[1], ("bend", 1, 2, *ends[2:5]))), ends[:5])
        self.assertEqual(ends_of(("bend", 0, 1, ("bend", 1, 2, *ends[:3]), ends[3], ends[4])), ends[:5])

    def test_the_same_end_again_and_again(self):
        self.assertEqual(ends_of(("bend", 0, 1, OPEN, OPEN, OPEN)), [OPEN] * 3)

    def test_of_what_bendings_tells(self):
        for sheet, free in CASES[::3]:
            paper = bendings(sheet, free)[1]
            ends = [taken(paper, way) for way in ways_within(paper)]
            self.assertEqual(repr(ends_of(paper)), repr([end for end in ends if end[0] != "bend"]))

    def test_forty_tuples_within_one_another(self):
        for k in (3, 4, 5):
            paper = ("ring", [7])
            for depth in range(39):
                ends = [("open", (depth, m, 0)) for m in range(3)]
                paper = put(("bend", 0, 1, *ends), [k], paper)
            told = ends_of(paper)
            self.assertEqual((len(told), told.count(("ring", [7]))), (79, 1))
            self.assertEqual(told.index(("ring", [7])), {3: 0, 4: 39, 5: 78}[k])


class ThePapersShow(unittest.TestCase):
    def test_every_other_way_ends_at_a_ring_a_clash_or_an_open_edge(self):
        for sheet, free in CASES[::4]:
            closings, paper = bendings(sheet, free)
            self.assertEqual([end[0] for end in ends_of(paper)].count("closed"), len(closings))

    def test_the_own_reckonings_agree_with_one_another(self):
        bent_four = bent(FOUR, [1, 0, 0, 0])
        self.assertTrue(plain_is_ring(bent_four, [0, 1, 3, 2]))
        self.assertTrue(plain_is_clash(ROW, [0, 1, 2, 3, 4]))
        for sheet in LAID:
            self.assertEqual(plain_step(sheet, fixed_bends(sheet, []))[0], "closed")


class Keeping(unittest.TestCase):
    def test_what_is_handed_in_and_told(self):
        for sheet, free in CASES[::9]:
            paper = bendings(sheet, free)[1]
            ask_and_wreck(self, paper_holds, sheet, free, paper)
            ask_and_wreck(self, ends_of, paper)
        for end in [OPEN, ("closed", [(0, 0, 0)]), ("ring", [0, 1, 3, 2]), ("clash", [0, 1, 2])]:
            ask_and_wreck(self, ends_of, end)
            ask_and_wreck(self, paper_holds, FOUR, [], end)

    def test_the_ends_share_no_list_with_the_paper(self):
        paper = ("bend", 0, 1, ("ring", [0, 1]), ("clash", [1, 2]), ("closed", [(0, 0, 0)]))
        for end, part in zip(ends_of(paper), paper[3:]):
            self.assertIsNot(end[1], part[1])


if __name__ == "__main__":
    unittest.main()
