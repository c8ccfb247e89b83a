"""Points 10 and 11: sheetfold.drawings."""

import unittest

from keeping import ask_and_wreck, refused_and_kept
from sheet_samples import FAR, MANY, SHEETS, SMALL, plain_bend
from sheetfold.drawings import drawn, seen, sheet_read, sheet_text
from sheetfold.errors import NoDrawing, NoSheet

CROSS = ["..#....", "..v....", "#^#^#+#", "..+....", "..#...."]
CROSS_CELLS = [(0, 1), (1, 0), (1, 1), (1, 2), (2, 1), (3, 1)]
CROSS_SHEET = (CROSS_CELLS, [(0, 2, 1), (1, 2, 0), (2, 3, -1), (2, 4, 1), (4, 5, 0)])
SIGNS = [chr(code) for code in range(32, 127) if chr(code) != "%"]


def at_least_nought(sheet):
    cells, joins = sheet
    left, low = min(x for x, y in cells), min(y for x, y in cells)
    return [(x - left, y - low) for x, y in cells], joins


def plain_drawn(sheet):
    """Sign by sign, each asked for by itself."""
    cells, joins = at_least_nought(sheet)
    width, height = 1 + max(x for x, y in cells), 1 + max(y for x, y in cells)

    def sign(above, left):
        x, y = left // 2, height - 1 - above // 2
        if above % 2 == 0 and left % 2 == 0:
            return "#" if (x, y) in cells else "."
        if above % 2 == 1 and left % 2 == 1:
            return "."
        one, other = ((x, y), (x + 1, y)) if left % 2 == 1 else ((x, y - 1), (x, y))
        if one not in cells or other not in cells:
            return "."
        return {None: ".", 0: "+", 1: "^", -1: "v"}[plain_bend((cells, joins), cells.index(one), cells.index(other))]

    return ["".join(sign(above, left) for left in range(2 * width - 1)) for above in range(2 * height - 1)]


def blank(height, width):
    return ["." * width for _ in range(height)]


def with_sign(rows, above, left, sign):
    row = rows[above]
    return rows[:above] + [row[:left] + sign + row[left + 1:]] + rows[above + 1:]


class Drawn(unittest.TestCase):
    def test_by_hand(self):
        self.assertEqual(drawn(([(0, 0)], [])), ["#"])
        self.assertEqual(drawn(([(0, 0), (1, 0)], [(0, 1, 1)])), ["#^#"])
        self.assertEqual(drawn(([(0, 0), (0, 1)], [(0, 1, -1)])), ["#", "v", "#"])
        self.assertEqual(drawn(([(0, 0), (0, 1), (1, 0)], [(0, 1, 0), (0, 2, 1)])), ["#..", "+..", "#^#"])
        self.assertEqual(drawn(CROSS_SHEET), CROSS)

    def test_slits_are_left_empty(self):
        square = [(0, 0), (0, 1), (1, 0), (1, 1)]
        self.assertEqual(drawn((square, [(0, 1, 0), (1, 3, 1), (2, 3, -1)])), ["#^#", "+.v", "#.#"])

    def test_only_from_the_least_places_to_the_greatest(self):
        self.assertEqual(drawn(([(FAR, -FAR)], [])), ["#"])
        self.assertEqual(drawn(([(-FAR, FAR - 1), (-FAR, FAR)], [(0, 1, 1)])), ["#", "^", "#"])

    def test_the_longest(self):
        row = ([(x, 3) for x in range(26)], [(x, x + 1, 0) for x in range(25)])
        self.assertEqual(drawn(row), ["+".join("#" * 26)])
        column = ([(3, y) for y in range(26)], [(y, y + 1, 1) for y in range(25)])
        self.assertEqual(drawn(column), list("^".join("#" * 26)))

    def test_all_samples(self):
        for sheet in SHEETS:
            told = drawn(sheet)
            self.assertEqual(repr(told), repr(plain_drawn(sheet)))


class DrawnAndReadAgain(unittest.TestCase):
    def test_all_samples(self):
        for sheet in SHEETS:
            want = repr(at_least_nought(sheet))
            self.assertEqual(repr(seen(drawn(sheet))), want)
            self.assertEqual(repr(sheet_read(sheet_text(sheet))), want)

    def test_the_text_is_the_texts_with_a_stroke_between(self):
        self.assertEqual(sheet_text(([(0, 0)], [])), "#")
        self.assertEqual(sheet_text(([(0, 0), (0, 1), (1, 0)], [(0, 1, 0), (0, 2, 1)])), "#../+../#^#")
        for sheet in SHEETS:
            told = sheet_text(sheet)
            self.assertIs(type(told), str)
            self.assertEqual(told, "/".join(plain_drawn(sheet)))


class Seen(unittest.TestCase):
    def test_by_hand(self):
        self.assertEqual(seen(["#"]), ([(0, 0)], []))
        self.assertEqual(seen(["#^#"]), ([(0, 0), (1, 0)], [(0, 1, 1)]))
        self.assertEqual(seen(["#", "v", "#"]), ([(0, 0), (0, 1)], [(0, 1, -1)]))
        self.assertEqual(seen(CROSS), CROSS_SHEET)
        self.assertEqual(sheet_read("/".join(CROSS)), CROSS_SHEET)

    def test_empty_rows_and_columns_count_as_places(self):
        self.assertEqual(seen(["...", "...", "#.."]), ([(0, 0)], []))
        self.assertEqual(seen(["#..", "...", "..."]), ([(0, 1)], []))
        self.assertEqual(seen(["..#", "...", "..."]), ([(1, 1)], []))
        self.assertEqual(seen(["..#"]), ([(1, 0)], []))
        self.assertEqual(sheet_read("#/./."), ([(0, 1)], []))

    def test_samples_with_empty_rows_and_columns_round_them(self):
        for sheet in SMALL[::9] + MANY[::9]:
            rows = plain_drawn(sheet)
            cells, joins = at_least_nought(sheet)
            for left, right, above, below in [(1, 0, 0, 0), (0, 1, 0, 0), (0, 0, 1, 0), (0, 0, 0, 1), (1, 2, 2, 1)]:
                wide = [".." * left + row + ".." * right for row in rows]
                width = len(wide[0])
                put = blank(2 * above, width) + wide + blank(2 * below, width)
                want = ([(x + left, y + below) for x, y in cells], joins)
                self.assertEqual(seen(put), want)
                self.assertEqual(sheet_read("/".join(put)), want)

    def test_sixty_one_texts_and_signs_are_not_refused(self):
        rows = with_sign(blank(61, 61), 0, 60, "#")
        self.assertEqual(seen(rows), ([(30, 30)], []))
        self.assertEqual(sheet_read("/".join(rows)), ([(30, 30)], []))
        self.assertEqual(seen(with_sign(blank(61, 1), 60, 0, "#")), ([(0, 0)], []))
        self.assertEqual(seen(with_sign(blank(1, 61), 0, 60, "#")), ([(30, 0)], []))
        self.assertEqual(seen(["." * 8 + "+".join("#" * 26) + "..", *blank(60, 61)])[0][0], (4, 30))


class NoDrawings(unittest.TestCase):
    def assert_no_drawing(self, rows):
        refused_and_kept(self, NoDrawing, seen, rows)
        if rows:
            refused_and_kept(self, NoDrawing, sheet_read, "/".join(rows))

    def test_no_texts(self):
        self.assert_no_drawing([])

    def test_an_even_number_of_texts(self):
        for n in [2, 4, 26, 60, 62]:
            self.assert_no_drawing(with_sign(blank(n, 3), 0, 0, "#"))
        self.assert_no_drawing(["#+#", "#+#"])
        self.assert_no_drawing(["#", "+"])

    def test_more_than_sixty_one_texts(self):
        for n in [63, 65, 101, 1001]:
            self.assert_no_drawing(with_sign(blank(n, 1), 0, 0, "#"))

    def test_texts_unlike_long(self):
        for rows in [["#..", ".", "..."], ["#", "...", "."], ["#", ".", "..."], ["#..", "...", "....."]]:
            self.assert_no_drawing(rows)
        for rows in [["#..", "..", "..."], ["#..", "...", ".."], ["#", ".", ""], ["#", "", "."], ["", "#", "#"]]:
            self.assert_no_drawing(rows)

    def test_no_signs(self):
        self.assert_no_drawing([""])
        self.assert_no_drawing(["", "", ""])
        refused_and_kept(self, NoDrawing, sheet_read, "")
        refused_and_kept(self, NoDrawing, sheet_read, "//")

    def test_an_even_number_of_signs(self):
        for n in [2, 4, 60, 62]:
            self.assert_no_drawing(with_sign(blank(1, n), 0, 0, "#"))
            self.assert_no_drawing(with_sign(blank(3, n), 0, 0, "#"))
        self.assert_no_drawing(["#+"])

    def test_more_than_sixty_one_signs(self):
        for n in [63, 65, 101, 3999]:
            self.assert_no_drawing(with_sign(blank(1, n), 0, 0, "#"))
        self.assert_no_drawing(with_sign(blank(3, 63), 0, 0, "#"))

    def test_strokes_that_part_nothing(self):
        for text in ["/", "#/", "/#", "#//#", "/#/", "#+#/+.+/#+#/"]:
            refused_and_kept(self, NoDrawing, sheet_read, text)

    def test_a_wrong_sign_at_each_kind_of_place(self):
        rows = ["#+#", "+.+", "#+#"]
        kinds = {(0, 0): "#.", (0, 1): "+^v.", (1, 0): "+^v.", (1, 1): "."}
        for above in range(3):
            for left in range(3):
                for sign in SIGNS:
                    if sign not in kinds[above % 2, left % 2]:
                        put = with_sign(rows, above, left, sign)
                        refused_and_kept(self, NoDrawing, seen, put)
                        refused_and_kept(self, NoDrawing, sheet_read, "/".join(put))

    def test_right_signs_at_each_kind_of_place_are_read(self):
        rows = ["#+#", "+.+", "#+#"]
        for above, left in [(0, 1), (1, 0), (1, 2), (2, 1)]:
            for sign in "+^v.":
                self.assertEqual(len(seen(with_sign(rows, above, left, sign))[1]), 3 if sign == "." else 4)

    def test_a_join_not_between_two_cells(self):
        for sign in "+^v":
            for rows in [["#" + sign + "."], ["." + sign + "#"], ["#", sign, "."], [".", sign, "#"]]:
                self.assert_no_drawing(rows)
            self.assert_no_drawing(["." + sign + "."])
            self.assert_no_drawing(["#+#", ".." + sign, "#+."])

    def test_ahead_of_no_sheet(self):
        self.assert_no_drawing(["...", "...", "..x"])
        self.assert_no_drawing(["#.#", "...", "#.x"])
        self.assert_no_drawing(["#.#", "...", "#+."])
        self.assert_no_drawing(["#.#.#", ".+...", "#.#.#"])
        self.assert_no_drawing(["." * 62])
        crowd = ["+".join("#" * 27)]
        self.assert_no_drawing([crowd[0] + "+."])
        self.assert_no_drawing([crowd[0] + "*."])
        self.assert_no_drawing(crowd * 2)

    def test_wrong_at_the_last_place_of_the_greatest(self):
        self.assert_no_drawing(with_sign(with_sign(blank(61, 61), 0, 0, "#"), 60, 60, "+"))
        self.assert_no_drawing(with_sign(with_sign(blank(61, 61), 0, 0, "#"), 60, 59, "+"))


class NoSheets(unittest.TestCase):
    def assert_no_sheet(self, rows, why):
        for error in [refused_and_kept(self, NoSheet, seen, rows),
                      refused_and_kept(self, NoSheet, sheet_read, "/".join(rows))]:
            self.assertEqual(repr(error.why), repr(why))

    def test_no_cells(self):
        self.assert_no_sheet(["."], ("count", 0))
        self.assert_no_sheet(blank(3, 5), ("count", 0))
        self.assert_no_sheet(blank(61, 61), ("count", 0))

    def test_more_than_twenty_six(self):
        self.assert_no_sheet(["+".join("#" * 27)], ("count", 27))
        self.assert_no_sheet([".".join("#" * 27)], ("count", 27))
        self.assert_no_sheet(list("v".join("#" * 31)), ("count", 31))
        full = [".".join("#" * 31), "." * 61] * 30 + [".".join("#" * 31)]
        self.assert_no_sheet(full, ("count", 961))

    def test_apart(self):
        self.assert_no_sheet(["#.#"], ("apart", 1))
        self.assert_no_sheet(["#", ".", "#"], ("apart", 1))
        self.assert_no_sheet(["#+#.#"], ("apart", 2))
        self.assert_no_sheet(["#+#", "...", "#+#"], ("apart", 1))
        self.assert_no_sheet(["#.#", "+.+", "#.#"], ("apart", 2))
        self.assert_no_sheet(["#...#"], ("apart", 1))


class Keeping(unittest.TestCase):
    def test_what_is_handed_in_and_told(self):
        for sheet in SMALL[::20] + MANY[::4] + [CROSS_SHEET]:
            ask_and_wreck(self, drawn, sheet)
            ask_and_wreck(self, sheet_text, sheet)
            ask_and_wreck(self, seen, plain_drawn(sheet))
            ask_and_wreck(self, sheet_read, "/".join(plain_drawn(sheet)))


if __name__ == "__main__":
    unittest.main()
