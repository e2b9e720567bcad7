"""Checks that several modules make, in the order that holds for all of them."""

from leapcard.errors import InvalidBoard, InvalidMachine, Unlike
from leapcard.signs import check_row, is_sign_string


def check_board(board):
    """Raise InvalidBoard if there is no such board."""
    if board not in ("row", "ring"):
        raise InvalidBoard(board)


def check_played(card, row, board):
    """Check the board, and the row's signs against the card."""
    check_board(board)
    check_row(row, card.sign_string(walls=True, marks=True))


def check_sign_string(signs):
    """Raise InvalidMachine if the signs are not the signs of any machine."""
    if not is_sign_string(signs):
        raise InvalidMachine("signs")


def check_alike(first, second):
    """Raise Unlike, with the signs of the second machine, if the two machines have other signs."""
    if first.signs != second.signs:
        raise Unlike(second.signs)
