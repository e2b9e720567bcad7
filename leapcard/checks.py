"""Checks that several modules make, in the order that holds for all of them."""

from leapcard.errors import InvalidBoard, InvalidMachine, Unlike
from leapcard.signs import check_row, is_sign_string


def check_board(board):
    """Raise InvalidBoard if there is no such board."""
    if board not in ("row", "ring"):
        raise InvalidBoard(board)


def check_played(card, row, board):
    """Check the board, and the row's signs against the card."""
    check_board(board)
    check_row(row, card.sign_string(walls=True, marks=True))


def check_sign_string(signs):
    """Raise InvalidMachine if the signs are not the signs of any machine."""
    if not is_sign_string(signs):
        raise InvalidMachine("signs")


def fits_card(card, signs):
    """Whether the signs are one of the four sign strings of the card."""
    strings = [card.sign_string(walls=walls, marks=marks) for walls in (False, True) for marks in (False, True)]
    return signs in strings


def check_fits(card, signs, board):
    """Check the board, and that the signs of a machine fit the card."""
    check_board(board)
    if not fits_card(card, signs):
        raise Unlike(signs)


def check_alike(first, second):
    """Raise Unlike, with the signs of the second machine, if the two machines have other signs."""
    if first.signs != second.signs:
        raise Unlike(second.signs)
