"""Plays: lists of moves, made one behind the other."""

from leapcard.checks import check_played
from leapcard.errors import NoJump
from leapcard.leaps import Leaps


def rows_played(card, row, play, board):
    """The first row and the row after each move, up to the first move that cannot be made."""
    leaps = Leaps(card, board)
    rows = [row]
    for move in play:
        if move not in leaps.moves_of(rows[-1]):
            return rows
        rows.append(leaps.made(rows[-1], move))
    return rows


def replay(card, row, play, *, board="row"):
    """The list of rows from the first row to the last one."""
    check_played(card, row, board)
    rows = rows_played(card, row, play, board)
    if len(rows) <= len(play):
        raise NoJump(len(rows) - 1)
    return rows


def is_play(card, row, play, end, *, board="row"):
    """Whether the play can be made from the row and ends in the row end."""
    check_played(card, row, board)
    check_played(card, end, board)
    rows = rows_played(card, row, play, board)
    return len(rows) == len(play) + 1 and rows[-1] == end
