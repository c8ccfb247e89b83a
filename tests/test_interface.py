"""The interface of DOC.md: every name is there, with its arguments as they stand there."""

import importlib
import inspect
import unittest

FUNCTIONS = {
    "turns": [
        "cross(one, other)", "is_turn(thing)", "all_turns()", "turned(turn, spot)", "joined_turns(first, second)",
        "turn_back(turn)",
    ],
    "moves": [
        "moved(move, spot)", "joined_moves(first, second)", "move_back(move)", "out_of(pose)", "pose_moved(move, pose)",
        "move_between(pose, other)",
    ],
    "sheets": [
        "sheet_of(cells, joins)", "neighbours(sheet, k)", "bends_of(sheet)", "with_bends(sheet, bends)",
        "shifted(sheet, shift)",
    ],
    "drawings": ["drawn(sheet)", "seen(rows)", "sheet_text(sheet)", "sheet_read(text)"],
    "joins": ["join_of(bend)", "unit_of(pose, way)"],
    "folding": ["folded(sheet, first=0, pose=None)", "walked(sheet, numbers, pose)", "is_ring(sheet, numbers)"],
    "squares": [
        "axis_of(square)", "edges_of(square)", "squares_at(edge)", "cubes_at(square)", "skin_of(cubes)",
        "closing(squares)", "crossings(squares, cube, axis)",
    ],
    "solids": ["solid_of(cubes)", "outward(solid, square)"],
    "skins": ["crowded(solid)", "skin_joins(solid)", "pose_on(solid, i)"],
    "slits": ["tree_fault(solid, pairs)", "laid(solid, pairs)"],
    "likes": [
        "solid_turned(solid, turn, shift=None)", "least_solid(solid)", "same_solids(one, other)",
        "sheet_turned(sheet, k, shift=None)", "least_sheet(sheet)", "same_sheets(one, other)",
    ],
    "bendings": ["bendings(sheet, free)"],
    "papers": ["paper_holds(sheet, free, paper)", "ends_of(paper)"],
    "trees": ["count_trees(n, pairs)", "all_trees(n, pairs)"],
    "nets": ["sheets_of(solid)"],
    "ways": ["steps_from(solid, i)", "way_over(solid, i, j)"],
}
METHODS = {
    ("joins", "Join"): ["bend(self)", "led(self, pose, way)"],
    ("joins", "Up"): ["bend(self)", "led(self, pose, way)"],
    ("joins", "Down"): ["bend(self)", "led(self, pose, way)"],
    ("desk", "Desk"): ["tell(self, thing)", "names(self)"],
}


def written(name, function):
    return name + str(inspect.signature(function))


class Interface(unittest.TestCase):
    def test_functions(self):
        for stem, wanted in FUNCTIONS.items():
            module = importlib.import_module("sheetfold." + stem)
            for want in wanted:
                name = want.partition("(")[0]
                self.assertEqual(written(name, getattr(module, name)), want)

    def test_methods(self):
        for (stem, class_name), wanted in METHODS.items():
            found = getattr(importlib.import_module("sheetfold." + stem), class_name)
            self.assertIsInstance(found(), found)
            for want in wanted:
                name = want.partition("(")[0]
                self.assertEqual(written(name, getattr(found, name)), want)

    def test_up_and_down_stand_straight_beneath_join(self):
        joins = importlib.import_module("sheetfold.joins")
        self.assertEqual((joins.Up.__bases__, joins.Down.__bases__), ((joins.Join,), (joins.Join,)))


if __name__ == "__main__":
    unittest.main()
