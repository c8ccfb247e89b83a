"""The refusals of the program, one class for each."""


class SheetError(ValueError):
    """Any refusal."""


class NoDrawing(SheetError):
    """The texts are no drawing of a sheet."""


class NoBend(SheetError):
    """A bend, or a list of places of free joins, is not one."""


class NoSquare(SheetError):
    """The thing is no square of the skin, or no number of one."""


class TooMany(SheetError):
    """There are more than are told."""


class NoTurn(SheetError):
    """The thing is no number by which a sheet is turned."""


class NoRow(SheetError):
    """The thing is no row that a desk understands."""


class NoName(SheetError):
    """Nothing of the asked kind is kept by the name."""


class NotClosed(SheetError):
    """The sheet is not folded and closed."""


class NoSheet(SheetError):
    """The cells and joins make no sheet; why is the first fault."""

    def __init__(self, why):
        SheetError.__init__(self, f"no sheet: {why!r}")
        self.why = why


class NoSolid(SheetError):
    """The cubes make no solid; why is the first fault."""

    def __init__(self, why):
        SheetError.__init__(self, f"no solid: {why!r}")
        self.why = why


class NoTree(SheetError):
    """The pairs make no tree of the skin; why is the first fault."""

    def __init__(self, why):
        SheetError.__init__(self, f"no tree: {why!r}")
        self.why = why


class NoWay(SheetError):
    """A cell of a list is not joined with the next one; at is its place in the list."""

    def __init__(self, at):
        SheetError.__init__(self, f"no join leads on from place {at!r}")
        self.at = at


class Crowded(SheetError):
    """Four squares of the skin meet at an edge; edge is the least such one."""

    def __init__(self, edge):
        SheetError.__init__(self, f"four squares meet at {edge!r}")
        self.edge = edge
