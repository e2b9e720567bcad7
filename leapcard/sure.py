"""Places that are free at the end of every play, asked for by a mark at the place."""

from leapcard.checks import check_fits
from leapcard.errors import InvalidMachine, InvalidRow, Unlike
from leapcard.images import stuck_rows
from leapcard.learn import learn
from leapcard.signs import MARKED, check_row, marked
from leapcard.targets import counting


def keep_lot(card, signs, *, board="row"):
    """The machine of the stuck rows with one mark, and a peg at the marked place."""
    check_fits(card, signs, board)
    if ":" not in signs:
        raise Unlike(signs)
    marked_pegs = [sign for sign in MARKED if sign != ":"]
    return stuck_rows(card, signs, board=board) & counting(signs, marked_pegs, ":", 1, 1)


def learn_free(card, *, walls=False, board="row", most=12):
    """The answer of learning which rows with one mark can end with a peg at the marked place."""
    lot = keep_lot(card, card.sign_string(walls=walls, marks=True), board=board)
    return learn(card, lot, board=board, most=most)


def free_places(machine, row):
    """The ascending list of the places that, as the learned machine tells, are surely free at the end."""
    if ":" not in machine.signs:
        raise InvalidMachine("signs")
    if any([sign in MARKED for sign in row]):
        raise InvalidRow(row)
    check_row(row, machine.signs)
    return [place for place, sign in enumerate(row) if sign != "#" and marked(row, place) not in machine]
