"""The error classes of sheetfold.errors."""

import unittest

from sheetfold import errors

WITH_A_TEXT = ["NoDrawing", "NoBend", "NoSquare", "TooMany", "NoTurn", "NoRow", "NoName", "NotClosed"]
WITH_WHY = ["NoSheet", "NoSolid", "NoTree"]
ALL = WITH_A_TEXT + WITH_WHY + ["NoWay", "Crowded"]


class ErrorClasses(unittest.TestCase):
    def test_sheet_error_is_a_value_error(self):
        self.assertEqual(errors.SheetError.__bases__, (ValueError,))

    def test_each_stands_straight_beneath_sheet_error(self):
        for name in ALL:
            self.assertEqual(getattr(errors, name).__bases__, (errors.SheetError,), name)

    def test_none_stands_beneath_another(self):
        for one in ALL:
            for other in ALL:
                beneath = issubclass(getattr(errors, one), getattr(errors, other))
                self.assertEqual(beneath, one == other, (one, other))

    def test_no_error_class_is_left_out_here(self):
        found = [name for name in vars(errors) if isinstance(getattr(errors, name), type)]
        self.assertEqual(sorted(found), sorted(ALL + ["SheetError"]))


class ErrorValues(unittest.TestCase):
    def test_those_with_a_text(self):
        for name in WITH_A_TEXT + ["SheetError"]:
            with self.assertRaises(errors.SheetError) as caught:
                raise getattr(errors, name)("some words")
            self.assertEqual(str(caught.exception), "some words")

    def test_those_with_why(self):
        whys = [("count", 0), ("twice", (0, -1)), ("twice", (1, 2, 3)), ("join", 4), ("apart", 10 ** 30)]
        for name in WITH_WHY:
            for why in whys:
                with self.assertRaises(errors.SheetError) as caught:
                    raise getattr(errors, name)(why)
                self.assertEqual(caught.exception.why, why)
                self.assertIs(type(caught.exception.why), tuple)

    def test_no_way_has_at(self):
        for at in [0, 1, 25]:
            self.assertEqual(errors.NoWay(at).at, at)

    def test_crowded_has_edge(self):
        for edge in [(0, 0, 1), (-2, 3, 10 ** 21)]:
            self.assertEqual(errors.Crowded(edge).edge, edge)

    def test_values_belong_to_the_object_and_can_be_named(self):
        one, other = errors.NoSheet(why=("count", 0)), errors.NoSheet(why=("count", 27))
        self.assertEqual((one.why, other.why), (("count", 0), ("count", 27)))
        self.assertEqual(errors.NoWay(at=3).at, 3)
        self.assertEqual(errors.Crowded(edge=(0, 0, 1)).edge, (0, 0, 1))

    def test_the_words_can_be_shown(self):
        made = [errors.NoSheet(("join", 2)), errors.NoSolid(("count", 7)), errors.NoTree(("ring", 1))]
        for error in made + [errors.NoWay(5), errors.Crowded((0, 0, 1))]:
            self.assertNotEqual(str(error), "")


if __name__ == "__main__":
    unittest.main()
