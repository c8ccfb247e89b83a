"""Points 34 and 35: sheetfold.desk."""

import unittest

from bend_samples import BOX, CASES, CROSS, LAID, TWO_WAYS, plain_closing, plain_closings
from sheet_samples import MANY, SMALL, Draws, plain_folded, plain_least_sheet, plain_sheet_turned
from sheetfold.desk import Desk
from sheetfold.drawings import sheet_text
from sheetfold.errors import (
    Crowded, NoBend, NoDrawing, NoName, NoRow, NoSheet, NoSolid, NotClosed, NoTree, SheetError, TooMany,
)
from solid_samples import (
    BRIDGE, CROWDED_SOLIDS, EASY_SOLIDS, FIVES, SIXES, SMALL_SOLIDS, plain_crowded, plain_joins, plain_laid_flat,
    plain_skin, random_tree, shifted_cubes,
)
from tree_samples import plain_count

NET = "..#..../..^..../#^#^#^#/..^..../..#...."
TREE = "0-1 0-2 0-3 0-4 4-5"
# Two cubes that have an edge in common, and no side.
TWINS = "......#.#....../......v.^....../#v#v#v#+#^#^#^#/......v.^....../......#.#......"
# A box of eight cubes.
BLOCK = "/".join([
    "....#+#........", "....+.+........", "....#+#........", "....^.^........",
    "#+#^#+#^#+#^#+#", "+.+.+.+.+.+.+.+", "#+#^#+#^#+#^#+#",
    "....^.^........", "....#+#........", "....+.+........", "....#+#........",
])
LETTERS = "abcdefghijklmnopqrstuvwxyz"
NO_TEXTS = [None, True, False, 0, 1, 10 ** 30, 1.5, [], ["show", "net"], ("show net",), {}, {"show": "net"}, b"show net"]
NO_TEXTS += [Desk, object(), {"show net"}]


def words_of(cubes):
    return " ".join(",".join(str(n) for n in cube) for cube in cubes)


def pair_words(pairs):
    return " ".join(f"{i}-{j}" for i, j in pairs)


def filled():
    """A desk with a sheet that closes, one that's open, a ring, a clash, two solids and a crowded one."""
    desk = Desk()
    for name, text in [("net", NET), ("flat", "#+#"), ("ring", "#^#/+.+/#+#"), ("clash", "#^#^#^#^#")]:
        desk.tell(f"sheet {name} {text}")
    for name, cubes in [("cube", [(0, 0, 0)]), ("pair", [(0, 0, 0), (0, 0, 1)]), ("bridge", BRIDGE)]:
        desk.tell(f"solid {name} {words_of(cubes)}")
    desk.tell(f"sheet twins {TWINS}")
    desk.tell(f"sheet block {BLOCK}")
    return desk


def kept_by(desk):
    return {name: desk.tell("show " + name) for name in desk.names()}


class DeskCase(unittest.TestCase):
    def assert_answers(self, desk, row, answer):
        told = desk.tell(row)
        self.assertEqual((type(told), told), (str, answer), row)

    def assert_refused(self, desk, row, error):
        """The row is refused with just this error, and changes nothing."""
        before = kept_by(desk)
        with self.assertRaises(SheetError) as caught:
            desk.tell(row)
        self.assertIs(type(caught.exception), error, row)
        self.assertEqual(kept_by(desk), before)
        return caught.exception


class Kept(DeskCase):
    def test_nothing_at_first(self):
        self.assertEqual(Desk().names(), [])

    def test_sheets_and_solids(self):
        desk = Desk()
        self.assert_answers(desk, "sheet a #", "kept 1")
        self.assert_answers(desk, "sheet b " + NET, "kept 6")
        self.assert_answers(desk, "solid c 0,0,0", "kept 1")
        self.assert_answers(desk, "solid d 0,0,1 0,0,0 0,1,1", "kept 3")
        self.assertEqual(desk.names(), ["a", "b", "c", "d"])

    def test_names_rise_whatever_came_first(self):
        desk = Desk()
        for name in ["zz", "a", "b", "ab", "abcdefgh", "z", "aa"]:
            desk.tell(f"sheet {name} #")
        self.assertEqual(desk.names(), ["a", "aa", "ab", "abcdefgh", "b", "z", "zz"])

    def test_every_letter_is_one(self):
        desk = Desk()
        for letter in LETTERS:
            self.assert_answers(desk, f"sheet {letter} #", "kept 1")
            self.assert_answers(desk, f"solid {letter * 8} 0,0,0", "kept 1")
        self.assertEqual(len(desk.names()), 52)

    def test_a_name_kept_anew(self):
        desk = Desk()
        for row in ["sheet a #", "sheet a #+#", "solid a 1,2,3", "solid a 0,0,0 0,0,1", "sheet a #v#"]:
            desk.tell(row)
            self.assertEqual((desk.names(), desk.tell("show a")), (["a"], row.split(" ", 2)[2]))

    def test_two_desks_apart_from_one_another(self):
        one, other = Desk(), Desk()
        one.tell("sheet a #")
        self.assertEqual((one.names(), other.names()), (["a"], []))
        self.assert_refused(other, "show a", NoName)
        other.tell("solid a 0,0,0")
        self.assertEqual((one.tell("show a"), other.tell("show a")), ("#", "0,0,0"))
        other.tell("drop a")
        self.assertEqual((one.names(), other.names()), (["a"], []))

    def test_drop(self):
        desk = filled()
        names = desk.names()
        for name in ["flat", "cube", "bridge"]:
            self.assert_answers(desk, "drop " + name, "dropped")
            names.remove(name)
            self.assertEqual(desk.names(), names)
            self.assert_refused(desk, "drop " + name, NoName)
            self.assert_refused(desk, "show " + name, NoName)

    def test_the_told_names_are_the_askers_own(self):
        desk = filled()
        names = desk.names()
        told = desk.names()
        told.clear()
        told.append("other")
        self.assertEqual(desk.names(), names)
        desk.tell("drop net")
        self.assertIn("net", names)


class Shown(DeskCase):
    def test_sheets(self):
        desk = Desk()
        for sheet in SMALL[::10] + MANY[::10]:
            text = sheet_text(sheet)
            cells = len(sheet[0])
            self.assert_answers(desk, "sheet a " + text, f"kept {cells}")
            self.assert_answers(desk, "show a", text)

    def test_empty_rows_and_columns_are_not_shown(self):
        desk = Desk()
        desk.tell("sheet a ......./......./..#^#../......./.......")
        self.assert_answers(desk, "show a", "#^#")
        desk.tell("sheet a #..../+..../#..../...../.....")
        self.assert_answers(desk, "show a", "#/+/#")

    def test_solids(self):
        desk = Desk()
        draws = Draws(101)
        for solid in SMALL_SOLIDS[::4] + FIVES[::40] + SIXES[::200]:
            solid = shifted_cubes(solid, (draws.below(1000) - 500, draws.below(9) - 4, 999990))
            self.assert_answers(desk, "solid a " + words_of(draws.shuffled(solid)), f"kept {len(solid)}")
            self.assert_answers(desk, "show a", words_of(solid))

    def test_numbers_of_one_to_six_figures(self):
        desk = Desk()
        for number in ["0", "1", "-1", "9", "-9", "10", "-10", "100000", "999999", "-999999", "-123456", "102030"]:
            for cube in [f"{number},0,0", f"0,{number},0", f"0,0,{number}", f"{number},{number},{number}"]:
                self.assert_answers(desk, "solid a " + cube, "kept 1")
                self.assert_answers(desk, "show a", cube)


class Folded(DeskCase):
    def test_the_four_answers(self):
        desk = filled()
        self.assert_answers(desk, "fold net", "closed 0,0,0")
        self.assert_answers(desk, "fold flat", "open")
        self.assert_answers(desk, "fold ring", "ring")
        self.assert_answers(desk, "fold clash", "clash 0 4")

    def test_several_cubes(self):
        desk = filled()
        told = desk.tell("fold twins").split(" ")
        self.assertEqual((told[0], len(told)), ("closed", 3))
        self.assertEqual(desk.tell("fold block").count(","), 16)

    def test_samples(self):
        desk = Desk()
        for sheet in SMALL[::7] + MANY[::4] + LAID:
            desk.tell("sheet a " + sheet_text(sheet))
            self.assert_answers(desk, "fold a", self.answer_to(sheet))

    def answer_to(self, sheet):
        told = plain_folded(sheet)
        if told[0] != "folded":
            return " ".join(str(part) for part in told)
        end = plain_closing([pose[0] for pose in told[1]])
        return "open" if end[0] == "open" else "closed " + words_of(end[1])


class Made(DeskCase):
    def test_by_hand(self):
        desk = filled()
        self.assert_answers(desk, "make new net", "kept 1")
        self.assert_answers(desk, "show new", "0,0,0")
        self.assert_answers(desk, "show net", NET)

    def test_the_same_name_for_both(self):
        desk = filled()
        self.assert_answers(desk, "make net net", "kept 1")
        self.assert_answers(desk, "show net", "0,0,0")
        self.assert_refused(desk, "make net net", NoName)

    def test_in_the_place_of_what_was(self):
        desk = filled()
        for name in ["flat", "pair"]:
            self.assert_answers(desk, f"make {name} net", "kept 1")
            self.assert_answers(desk, "show " + name, "0,0,0")

    def test_samples(self):
        desk = Desk()
        for sheet in LAID:
            cubes = plain_closing([pose[0] for pose in plain_folded(sheet)[1]])[1]
            desk.tell("sheet a " + sheet_text(sheet))
            self.assert_answers(desk, "make b a", f"kept {len(cubes)}")
            self.assert_answers(desk, "show b", words_of(cubes))

    def test_sheets_that_are_not_closed(self):
        desk = filled()
        for name in ["flat", "ring", "clash"]:
            self.assert_refused(desk, "make new " + name, NotClosed)
            self.assert_refused(desk, f"make {name} {name}", NotClosed)
            self.assert_refused(desk, "make net " + name, NotClosed)

    def test_cubes_that_are_no_solid(self):
        desk = filled()
        error = self.assert_refused(desk, "make new twins", NoSolid)
        cubes = sorted(tuple(map(int, word.split(","))) for word in desk.tell("fold twins").split(" ")[1:])
        self.assertEqual(error.why, ("apart", cubes[1]))
        self.assertEqual(self.assert_refused(desk, "make net block", NoSolid).why, ("count", 8))


class SkinsAndTrees(DeskCase):
    def test_by_hand(self):
        desk = filled()
        self.assert_answers(desk, "skin cube", "6")
        self.assert_answers(desk, "skin pair", "10")
        self.assert_answers(desk, "skin bridge", "22")
        self.assert_answers(desk, "trees cube", "384")

    def test_samples(self):
        desk = Desk()
        for solid in EASY_SOLIDS[::6]:
            if max(abs(n) for cube in solid for n in cube) < 1000:
                squares = len(plain_skin(solid))
                desk.tell("solid a " + words_of(solid))
                self.assert_answers(desk, "skin a", str(squares))
                count = plain_count(squares, [join[:2] for join in plain_joins(solid)])
                self.assert_answers(desk, "trees a", str(count))

    def test_crowded_ones(self):
        desk = Desk()
        for solid in CROWDED_SOLIDS[:-3:8]:
            desk.tell("solid a " + words_of(solid))
            self.assert_answers(desk, "skin a", str(len(plain_skin(solid))))
            self.assertEqual(self.assert_refused(desk, "trees a", Crowded).edge, plain_crowded(solid))


class Bent(DeskCase):
    def test_by_hand(self):
        desk = filled()
        self.assert_answers(desk, "bends net", "1")
        self.assert_answers(desk, "bends net 0 1 2 3 4", "2")
        self.assert_answers(desk, "bends net 3", "1")
        self.assert_answers(desk, "bends flat", "0")
        self.assert_answers(desk, "bends flat 0", "0")
        self.assert_answers(desk, "bends block 10 11", "1")

    def test_samples(self):
        desk = Desk()
        for sheet, free in CASES[::5] + [(CROSS, [0, 1, 2, 3, 4]), (TWO_WAYS, [2, 3, 6, 7, 8, 9])]:
            desk.tell("sheet a " + sheet_text(sheet))
            row = " ".join(["bends", "a"] + [str(place) for place in free])
            self.assert_answers(desk, row, str(len(plain_closings(sheet, free))))

    def test_refused(self):
        desk = filled()
        for places in ["1 0", "0 0", "5", "0 99", "4 5"]:
            self.assert_refused(desk, "bends net " + places, NoBend)
        for places in ["0 1 2 3 4 5 6", "0 0 0 0 0 0 0", "99 98 97 96 95 94 93", " ".join(["7"] * 60)]:
            self.assert_refused(desk, "bends net " + places, TooMany)


class Laid(DeskCase):
    def test_by_hand(self):
        desk = filled()
        self.assert_answers(desk, "lay new cube " + TREE, "kept 6")
        self.assert_answers(desk, "show new", "..#..../..v..../#v#v#v#/..v..../..#....")
        self.assert_answers(desk, "fold new", "closed 0,0,-1")
        self.assert_answers(desk, "same new net", "yes")
        self.assert_answers(desk, "show cube", "0,0,0")

    def test_the_same_name_for_both(self):
        desk = filled()
        self.assert_answers(desk, "lay cube cube " + TREE, "kept 6")
        self.assert_answers(desk, "fold cube", "closed 0,0,-1")
        self.assert_refused(desk, "lay cube cube " + TREE, NoName)

    def test_samples_and_laps(self):
        draws = Draws(102)
        desk = Desk()
        kinds = []
        for solid in [BOX] * 10 + SMALL_SOLIDS[::6] + [one for one in SIXES[::150] if plain_crowded(one) is None]:
            tree = random_tree(draws, solid)
            told = plain_laid_flat(solid, tree)
            kinds.append(told[0])
            desk.tell("solid a " + words_of(solid))
            desk.tell("sheet b #")
            before = kept_by(desk)
            if told[0] == "lap":
                for new in ["a", "b", "c"]:
                    self.assert_answers(desk, f"lay {new} a {pair_words(tree)}", f"lap {told[1]} {told[2]}")
                    self.assertEqual(kept_by(desk), before)
            else:
                self.assert_answers(desk, f"lay b a {pair_words(tree)}", f"kept {len(tree) + 1}")
                self.assert_answers(desk, "show b", sheet_text(told[1]))
        self.assertGreater(min(kinds.count("lap"), kinds.count("flat")), 5)

    def test_refused(self):
        desk = filled()
        self.assertEqual(self.assert_refused(desk, "lay new cube", NoTree).why, ("apart", 1))
        self.assertEqual(self.assert_refused(desk, "lay new cube 1-0", NoTree).why, ("pair", 0))
        self.assertEqual(self.assert_refused(desk, "lay new cube 0-1 0-99", NoTree).why, ("pair", 1))
        self.assertEqual(self.assert_refused(desk, "lay net cube 0-1 0-2 0-1", NoTree).why, ("ring", 2))
        self.assertEqual(self.assert_refused(desk, "lay new bridge", Crowded).edge, (2, 2, 1))
        self.assertEqual(self.assert_refused(desk, "lay new bridge 9-9", Crowded).edge, (2, 2, 1))


class Same(DeskCase):
    def test_sheets(self):
        desk = Desk()
        for sheet in SMALL[::40] + MANY[::30]:
            desk.tell("sheet a " + sheet_text(sheet))
            for k in range(8):
                desk.tell("sheet b " + sheet_text(plain_sheet_turned(sheet, k)))
                self.assert_answers(desk, "same a b", "yes")
        for one in SMALL[::70]:
            desk.tell("sheet a " + sheet_text(one))
            for other in SMALL[::50]:
                desk.tell("sheet b " + sheet_text(other))
                alike = plain_least_sheet(one) == plain_least_sheet(other)
                self.assert_answers(desk, "same a b", "yes" if alike else "no")

    def test_solids(self):
        desk = filled()
        desk.tell("solid other 5,5,5 5,6,5")
        desk.tell("solid screw 0,0,0 0,0,1 0,1,1 1,1,1")
        desk.tell("solid wercs 0,0,0 0,0,1 0,1,1 -1,1,1")
        self.assert_answers(desk, "same pair other", "yes")
        self.assert_answers(desk, "same cube other", "no")
        self.assert_answers(desk, "same screw wercs", "no")

    def test_a_thing_and_itself(self):
        desk = filled()
        for name in desk.names():
            self.assert_answers(desk, f"same {name} {name}", "yes")


class NoRows(DeskCase):
    DESK = filled()

    def assert_no_rows(self, rows):
        for row in rows:
            self.assert_refused(self.DESK, row, NoRow)

    def test_any_thing_that_is_no_text(self):
        self.assert_no_rows(NO_TEXTS)

    def test_the_empty_text_and_blanks(self):
        self.assert_no_rows(["", " ", "  ", " show net", "show net ", "show  net", "show net  ", "  show net"])
        self.assert_no_rows(["sheet new  #", "sheet new # ", " sheet new #", "solid new 0,0,0 ", "solid new  0,0,0"])
        self.assert_no_rows(["bends net ", "bends net  0", "bends net 0  1", "lay new cube ", "lay new cube  0-1"])
        self.assert_no_rows(["show\tnet", "show net\n", "\nshow net", "show\nnet", "sheet new ", "solid new "])

    def test_another_word_ahead(self):
        self.assert_no_rows(["net", "Show net", "SHOW net", "shows net", "sho net", "keep net", "names", "tell net", "#"])
        self.assert_no_rows(["NoRow", "sheets new #", "fold,net", "kept 1", "0 net", "show-net"])

    def test_too_few_words(self):
        words = ["sheet", "solid", "drop", "show", "fold", "make", "skin", "trees", "bends", "lay", "same"]
        self.assert_no_rows(words)
        self.assert_no_rows(["sheet new", "solid new", "make new", "make net", "lay new", "lay cube", "same net"])

    def test_too_many_words(self):
        self.assert_no_rows(["sheet new # #", "sheet new #+# #", "drop net net", "show net net", "fold net 0"])
        self.assert_no_rows(["make new net net", "skin cube cube", "trees cube 0", "same net net net"])

    def test_names_that_are_none(self):
        wrong = ["A", "Net", "neT", "n3t", "3", "a_b", "a-b", "a.b", "abcdefghi", "netnetnet", "#", "-", "a,b"]
        wrong += ["n\u00e9t", "\u00df", "\u00aa"]
        for name in wrong:
            self.assert_no_rows([f"sheet {name} #", f"solid {name} 0,0,0", f"drop {name}", f"show {name}", f"fold {name}"])
            self.assert_no_rows([f"make {name} net", f"make net {name}", f"skin {name}", f"trees {name}"])
            self.assert_no_rows([f"bends {name}", f"bends {name} 0", f"lay {name} cube {TREE}", f"lay new {name} {TREE}"])
            self.assert_no_rows([f"same {name} net", f"same net {name}"])

    def test_numbers_that_are_none(self):
        wrong = ["00", "01", "-01", "-0", "1234567", "-1234567", "0000000", "+1", "--1", "-", "1-", "1_0", "a", "1x", "1.0"]
        wrong += ["0x1", "1e3", "\u0663", "\u00b2", "1\n", "1\t"]
        for number in wrong:
            cubes = [f"{number},0,0", f"0,{number},0", f"0,0,{number}"]
            self.assert_no_rows(["solid new " + cube for cube in cubes])
            self.assert_no_rows([f"solid new 0,0,0 {cube}" for cube in cubes])

    def test_cubes_that_are_none(self):
        for cube in ["0", "0,0", "0,0,0,0", "0,0,", ",0,0", "0,,0", ",,", ",", "0,0,0,", "0;0;0", "(0,0,0)", "0-0-0", "#"]:
            self.assert_no_rows([f"solid new {cube}", f"solid new 0,0,0 {cube}", f"solid new {cube} 0,0,0"])

    def test_places_that_are_none(self):
        for place in ["00", "01", "-1", "+1", "100", "000", "-0", "a", "0,1", "1-2", "1.0", "\u0663", "\u00b2", "1\n"]:
            self.assert_no_rows([f"bends net {place}", f"bends net 0 {place}", f"bends net {place} 1"])

    def test_pairs_that_are_none(self):
        wrong = ["0", "0-", "-0", "-", "0-1-2", "0--1", "--", "-0-1", "00-1", "0-01", "0-100", "100-0", "a-b", "0,1", "0-a"]
        for pair in wrong + ["0+1", "0-+1", "0-\u0663", "0-1\n"]:
            self.assert_no_rows([f"lay new cube {pair}", f"lay new cube 0-1 {pair}", f"lay new cube {pair} {TREE}"])

    def test_too_many_cubes_places_or_pairs(self):
        self.assert_no_rows(["solid new " + " ".join(f"0,0,{k}" for k in range(61))])
        self.assert_no_rows(["bends net " + " ".join(["0"] * 61), "lay new cube " + " ".join(["0-1"] * 101)])
        self.assert_refused(self.DESK, "solid new " + " ".join(f"0,0,{k}" for k in range(60)), NoSolid)
        self.assert_refused(self.DESK, "bends net " + " ".join(["0"] * 60), TooMany)
        self.assert_refused(self.DESK, "lay new cube " + " ".join(["0-1"] * 100), NoTree)


class InTheirOrder(DeskCase):
    def test_no_row_goes_ahead_of_no_name(self):
        desk = filled()
        for row in ["show none extra", "drop none none", "bends none 00", "lay new none 0-1-2", "same none"]:
            self.assert_refused(desk, row, NoRow)
        for row in ["fold none none", "bends cube 01", "lay new net 0", "make new none none", "skin net net", "same net cube flat"]:
            self.assert_refused(desk, row, NoRow)

    def test_names_by_which_nothing_is_kept(self):
        desk = filled()
        for row in ["drop none", "show none", "fold none", "make net none", "make none none", "skin none", "trees none"]:
            self.assert_refused(desk, row, NoName)
        for row in ["bends none", "bends none 0", "lay net none", f"lay none none {TREE}", "same none none"]:
            self.assert_refused(desk, row, NoName)
        for row in ["same net none", "same none net", "same cube none", "same none cube"]:
            self.assert_refused(desk, row, NoName)

    def test_things_of_the_other_kind(self):
        desk = filled()
        for row in ["fold cube", "make new cube", "make cube cube", "bends cube", "bends cube 0", "skin net", "trees net"]:
            self.assert_refused(desk, row, NoName)
        for row in [f"lay new net {TREE}", f"lay cube net {TREE}", "same net cube", "same cube net"]:
            self.assert_refused(desk, row, NoName)

    def test_no_name_goes_ahead_of_what_the_function_refuses(self):
        desk = filled()
        for row in ["lay new none 9-9", "lay new net 9-9", "bends none 1 0", "bends bridge 0 0 0 0 0 0 0", "bends cube 9"]:
            self.assert_refused(desk, row, NoName)

    def test_what_the_functions_refuse(self):
        desk = filled()
        for text in ["##", "x", "#x#", "./#", "#+#/#", "/", "#+.", "#" * 63, ".#.", "#+#+"]:
            self.assert_refused(desk, "sheet new " + text, NoDrawing)
            self.assert_refused(desk, "sheet net " + text, NoDrawing)
        for text, why in [(".", ("count", 0)), ("#.#", ("apart", 1)), ("+".join(["#"] * 27), ("count", 27))]:
            self.assertEqual(self.assert_refused(desk, "sheet net " + text, NoSheet).why, why)
        cubes = " ".join(f"0,0,{k}" for k in range(7))
        faults = [(cubes, ("count", 7)), ("0,0,1 0,0,0 0,0,1", ("twice", (0, 0, 1))), ("0,0,0 0,1,1", ("apart", (0, 1, 1)))]
        for row, why in faults:
            self.assertEqual(self.assert_refused(desk, "solid new " + row, NoSolid).why, why)
            self.assertEqual(self.assert_refused(desk, "solid cube " + row, NoSolid).why, why)

    def test_what_is_refused_changes_nothing(self):
        desk = filled()
        before = kept_by(desk)
        rows = ["sheet net #x#", "sheet net #.#", "solid cube 0,0,0 5,5,5", "drop none", "make net flat"]
        rows += ["make flat block", "lay net bridge 0-1", "lay net cube 0-1", "lay cube cube", "bends net 9"]
        rows += ["trees bridge", "show", "", None]
        for row in rows:
            with self.assertRaises(SheetError):
                desk.tell(row)
            self.assertEqual(kept_by(desk), before)
        self.assert_answers(desk, "fold net", "closed 0,0,0")


if __name__ == "__main__":
    unittest.main()
