"""Walls: the pieces of a row between them, and what one more wall does."""

from leapcard.errors import InvalidMachine, InvalidPlace
from leapcard.signs import check_row


def pieces(row):
    """The list of the stretches between the walls."""
    check_row(row)
    return row.split("#")


def wall_put(row, gap):
    """The row with a wall in front of a place; nothing is checked."""
    return row[:gap] + "#" + row[gap:]


def walled(row, gap):
    """The row with one more wall in front of place gap, or at the end."""
    check_row(row)
    if not 0 <= gap <= len(row):
        raise InvalidPlace(gap)
    return wall_put(row, gap)


def wall_effects(machine, row):
    """For each gap of the row, whether the row with one more wall there is in the machine."""
    if "#" not in machine.signs:
        raise InvalidMachine("signs")
    check_row(row, machine.signs)
    return [wall_put(row, gap) in machine for gap in range(len(row) + 1)]
