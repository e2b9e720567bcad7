"""Two cards: whether a lot is reached from the same rows, for rows of every length."""

from leapcard.answers import Parted
from leapcard.checks import check_alike, check_fits
from leapcard.closed import is_exact, least_break
from leapcard.compare import first_difference
from leapcard.errors import NoMachine
from leapcard.images import rows_before
from leapcard.learn import learn
from leapcard.machine import Machine


def learned(card, lot, board, most):
    """The exact machine with at most so many states; NoMachine if there is none."""
    answer = learn(card, lot, board=board, most=most)
    if isinstance(answer, Parted):
        raise NoMachine(most)
    return answer.machine


def rows_of_length(signs, length):
    """The machine of all rows of this length."""
    arrows = [[min(state + 1, length + 1) for _ in signs] for state in range(length + 2)]
    return Machine(signs, arrows, [length])


def hopeful_among(card, lot, board, rows):
    """The machine of those of the rows from which a row of the lot is reached; moves do not lead out of the rows."""
    found = lot & rows
    while True:
        wider = found | rows_before(card, found, board=board)
        if wider == found:
            return found
        found = wider


def least_wrong(card, machine, lot, board):
    """The least row about which the machine is wrong, or None."""
    least = least_break(card, machine, lot, board)
    if least is None:
        return None
    # the break has the length of the least wrong row, but the machine may be right about the break itself
    rows = rows_of_length(lot.signs, len(least))
    return first_difference(machine & rows, hopeful_among(card, lot, board, rows))


def parting(first, second, lot, *, board="row", most=12):
    """The least row from which a row of the lot is reached with one of the two cards only, or None."""
    check_fits(first, lot.signs, board)
    check_fits(second, lot.signs, board)
    return least_wrong(second, learned(first, lot, board, most), lot, board)


def is_shared(first, second, lot, machine, *, board="row"):
    """Whether the machine is exact for both cards."""
    check_fits(first, lot.signs, board)
    check_fits(second, lot.signs, board)
    check_alike(lot, machine)
    return is_exact(first, machine, lot, board=board) and is_exact(second, machine, lot, board=board)


def useless(card, lot, *, board="row", most=12):
    """The ascending list of the indexes of the jumps without which the card is not parted from itself."""
    check_fits(card, lot.signs, board)
    if len(card.jumps) == 0:
        return []
    machine = learned(card, lot, board, most)
    return [index for index, jump in enumerate(card.jumps)
            if is_exact(card - jump, machine, lot, board=board)]
