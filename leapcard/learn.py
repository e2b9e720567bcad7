"""Learning the exact machine for a lot, and checking what was learned."""

from leapcard.answers import Found, Parted
from leapcard.checks import check_fits
from leapcard.closed import is_exact, least_break
from leapcard.hopes import Hopes
from leapcard.judging import are_guesses, are_parted, wrong_near
from leapcard.machine import Machine
from leapcard.signs import check_row, each_row
from leapcard.sorting import Sorter


def can_reach(card, row, lot, *, board="row"):
    """Whether a row of the lot is reached from the row."""
    check_fits(card, lot.signs, board)
    check_row(row, lot.signs)
    return Hopes(card, lot, board).has_hope(row)


def plain_rows(card, lot, length, *, board="row"):
    """The ascending list of the rows of this length from which a row of the lot is reached."""
    check_fits(card, lot.signs, board)
    hopes = Hopes(card, lot, board)
    return [row for row in each_row(lot.signs, length) if hopes.has_hope(row)]


def machine_of(sorter):
    """The machine whose states are the classes that are known so far."""
    finals = [state for state, row in enumerate(sorter.rows) if sorter.source.has_hope(row)]
    return Machine(sorter.signs, sorter.arrows, finals)


def learn(card, lot, *, board="row", most=12):
    """The exact machine with at most so many states, or rows that show that there is none."""
    check_fits(card, lot.signs, board)
    hopes = Hopes(card, lot, board)
    sorter = Sorter(lot.signs, hopes)
    guesses = []
    while True:
        sorter.complete(most)
        if len(sorter.rows) > most:
            rows, endings = sorter.parted(most + 1)
            return Parted(rows, endings, guesses)
        machine = machine_of(sorter)
        least = least_break(card, machine, lot, board)
        if least is None:
            return Found(machine.least(), guesses)
        row = wrong_near(machine, least, hopes)
        guesses.append((machine, row))
        sorter.learn_from(row)



def is_found(card, machine, lot, board, most):
    """Whether this is the exact machine, with at most so many states."""
    if not isinstance(machine, Machine) or machine.signs != lot.signs:
        return False
    return machine.size <= most and machine == machine.least() and is_exact(card, machine, lot, board=board)


def is_right(card, lot, answer, *, board="row", most=12):
    """Whether an answer is right, which is found out without trusting it."""
    check_fits(card, lot.signs, board)
    hopes = Hopes(card, lot, board)
    if isinstance(answer, Found):
        is_shown = is_found(card, answer.machine, lot, board, most)
    elif isinstance(answer, Parted):
        is_shown = are_parted(answer.rows, answer.endings, lot.signs, most, hopes)
    else:
        return False
    return is_shown and are_guesses(answer.guesses, lot.signs, most, hopes)
