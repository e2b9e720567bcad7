"""The rows before and after a move, and the rows without one, for rows of every length."""

from leapcard.beside import Beside, Sweep
from leapcard.checks import check_fits
from leapcard.machine import Machine, final_flags, least_machine
from leapcard.subsets import single


def with_step(pairs, machine, board):
    """The machine of the rows that a step by one of the window pairs leads into the machine."""
    sweep = Sweep(Beside(pairs, machine.signs, machine.arrows, board))
    finals = final_flags(machine)
    goods = [number for number, flag in enumerate(sweep.good_flags(finals)) if flag]
    starts, steps = sweep.hopeful(finals)
    arrows, flags = single(starts, steps, goods, len(machine.signs))
    return least_machine(machine.signs, arrows, flags)


def rows_before(card, machine, *, board="row"):
    """The machine of the rows that have a move to a row in the machine."""
    check_fits(card, machine.signs, board)
    return with_step(card.pairs, machine, board)


def rows_after(card, machine, *, board="row"):
    """The machine of the rows that some row in the machine has a move to."""
    check_fits(card, machine.signs, board)
    return with_step([(after, before) for before, after in card.pairs], machine, board)


def stuck_rows(card, signs, *, board="row"):
    """The machine of the rows over the signs that have no move."""
    check_fits(card, signs, board)
    return ~with_step(card.pairs, Machine.everything(signs), board)
