"""Two cards: whether a lot is reached from the same rows, for rows of every length."""

from leapcard.answers import Parted
from leapcard.checks import check_alike, check_fits
from leapcard.closed import is_exact, least_break
from leapcard.errors import NoMachine
from leapcard.hopes import Hopes
from leapcard.images import rows_before
from leapcard.learn import learn


def learned(card, lot, board, most):
    """The exact machine with at most so many states; NoMachine if there is none."""
    answer = learn(card, lot, board=board, most=most)
    if isinstance(answer, Parted):
        raise NoMachine(most)
    return answer.machine


def wrong_rows(card, machine, lot, board, length):
    """All rows of this length about which the machine is wrong, if it is right about all shorter ones."""
    moved = rows_before(card, machine, board=board)
    hopes = Hopes(card, lot, board)
    breaks = lot - machine | moved - machine | machine - lot - moved
    waiting = list(breaks.walk(length))
    found = {row: True for row in waiting}
    # from a wrong row that is no break, a move leads to a wrong row
    met = dict(found)
    while len(waiting) > 0:
        here = waiting.pop()
        for row in hopes.leaps.rows_behind(here):
            if row not in met:
                met[row] = True
                if hopes.is_wrong(machine, row):
                    found[row] = True
                    waiting.append(row)
    return list(found)


def least_wrong(card, machine, lot, board):
    """The least row about which the machine is wrong, or None."""
    least = least_break(card, machine, lot, board)
    if least is None:
        return None
    # no shorter row is wrong, but a lesser one of this length may be
    return min(wrong_rows(card, machine, lot, board, len(least)))


def parting(first, second, lot, *, board="row", most=12):
    """The least row from which a row of the lot is reached with one of the two cards only, or None."""
    check_fits(first, lot.signs, board)
    check_fits(second, lot.signs, board)
    return least_wrong(second, learned(first, lot, board, most), lot, board)


def is_shared(first, second, lot, machine, *, board="row"):
    """Whether the machine is exact for both cards."""
    check_fits(first, lot.signs, board)
    check_fits(second, lot.signs, board)
    check_alike(lot, machine)
    return is_exact(first, machine, lot, board=board) and is_exact(second, machine, lot, board=board)


def useless(card, lot, *, board="row", most=12):
    """The ascending list of the indexes of the jumps without which the card is not parted from itself."""
    check_fits(card, lot.signs, board)
    if len(card.jumps) == 0:
        return []
    machine = learned(card, lot, board, most)
    return [index for index, jump in enumerate(card.jumps)
            if is_exact(card - jump, machine, lot, board=board)]
