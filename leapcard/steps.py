"""Single moves: which ones a row has, and where they lead."""

from leapcard.checks import check_played
from leapcard.errors import NoJump
from leapcard.leaps import Leaps


def moves(card, row, *, board="row"):
    """The ascending list of all moves (place, pair) of the row."""
    check_played(card, row, board)
    return Leaps(card, board).moves_of(row)


def after_move(card, row, move, *, board="row"):
    """The row after the move."""
    check_played(card, row, board)
    leaps = Leaps(card, board)
    if move not in leaps.moves_of(row):
        raise NoJump(0)
    return leaps.made(row, move)


def next_rows(card, row, *, board="row"):
    """The ascending list of the rows that one move leads to."""
    check_played(card, row, board)
    return sorted(set([after for _, after in Leaps(card, board).steps_of(row)]))


def previous_rows(card, row, *, board="row"):
    """The ascending list of the rows from which one move leads to the row."""
    check_played(card, row, board)
    return sorted(set(Leaps(card, board).rows_behind(row)))


def is_stuck(card, row, *, board="row"):
    """Whether the row has no move."""
    check_played(card, row, board)
    return len(Leaps(card, board).moves_of(row)) == 0


def apart(card, row, first, second, *, board="row"):
    """Whether both are moves of the row whose windows have no place in common."""
    check_played(card, row, board)
    leaps = Leaps(card, board)
    found = leaps.moves_of(row)
    if first not in found or second not in found:
        return False
    taken = leaps.places_of(row, first)
    return not any([place in taken for place in leaps.places_of(row, second)])
