"""Joins, and how they lead from pose to pose (points 12 and 13)."""

from sheetfold.errors import NoBend
from sheetfold.moves import out_of
from sheetfold.turns import added, cross, is_whole, joined_turns, negated, turn_back, turned

# Bent down, flat, bent up.
BENDS = (-1, 0, 1)


def unit_of(pose, way):
    return (pose[1], pose[2], negated(pose[1]), negated(pose[2]))[way]


class Join:
    """A flat join."""

    def bend(self):
        return 0

    def goes_on(self, unit, out):
        """The unit as which this unit goes on beyond the edge."""
        return unit

    def led(self, pose, way):
        unit = unit_of(pose, way)
        out = out_of(pose)
        edge = cross(unit, out)
        beyond = self.goes_on(unit, out)
        # Back from the frame of unit, out and edge to the plain one, and on to the frame beyond the edge.
        turn = joined_turns(turn_back((unit, out, edge)), (beyond, cross(edge, beyond), edge))
        return (added(added(pose[0], unit), beyond), turned(turn, pose[1]), turned(turn, pose[2]))


class Up(Join):
    """A join that is bent up."""

    def bend(self):
        return 1

    def goes_on(self, unit, out):
        return out


class Down(Join):
    """A join that is bent down."""

    def bend(self):
        return -1

    def goes_on(self, unit, out):
        return negated(out)


def is_bend(thing):
    return is_whole(thing) and thing in BENDS


def join_of(bend):
    if not is_bend(bend):
        # The thing itself is not told: Python won't write out each whole number.
        raise NoBend("a bend is -1, 0 or 1")
    if bend == 1:
        return Up()
    if bend == -1:
        return Down()
    return Join()
