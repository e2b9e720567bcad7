"""Learning the exact sum machine for a measure, and checking what was learned."""

from leapcard.answers import SumFound, SumParted
from leapcard.checks import check_fits
from leapcard.judging import are_guesses, are_parted, wrong_near
from leapcard.scores import Measure, Scores
from leapcard.signs import MARKED, unmarked
from leapcard.sorting import Sorter
from leapcard.sumcheck import is_sum_exact, least_sum_break
from leapcard.sums import SumMachine
from leapcard.survey import parted_in_survey

LONG_ROW = 6


def machine_of(sorter, signs):
    """The sum machine, over signs that may be marked, whose states are the classes that are known so far."""
    columns = [sorter.signs.find(unmarked(sign)) for sign in signs]
    sums = [[sorter.source.shown(row, sorter.signs[at]) for at in columns] for row in sorter.rows]
    return SumMachine(signs, [[row[at] for at in columns] for row in sorter.arrows], sums)


def learn_sum(card, signs, measure, *, board="row", most=12):
    """The exact sum machine with at most so many states, or rows that show that there is none."""
    check_fits(card, signs, board)
    scores = Scores(card, Measure(card, measure), board)
    # marks do not change a measure
    sorter = Sorter("".join([sign for sign in signs if sign not in MARKED]), scores)
    guesses = []
    longest = LONG_ROW
    while True:
        sorter.complete(most, longest)
        if longest is not None and not sorter.is_complete() and len(sorter.rows) <= most:
            # to play out long rows takes long, and short ones may be enough
            parted = parted_in_survey(card.sign_string(), scores, most)
            if parted is not None:
                return SumParted(parted[0], parted[1], guesses)
            longest = None
            sorter.complete(most, longest)
        if len(sorter.rows) > most:
            rows, endings = sorter.parted(most + 1)
            return SumParted(rows, endings, guesses)
        machine = machine_of(sorter, signs)
        least = least_sum_break(card, machine, measure, board)
        if least is None:
            return SumFound(machine.least(), guesses)
        row = wrong_near(machine, least, scores)
        guesses.append((machine, row))
        sorter.learn_from(unmarked(row))


def is_found(card, signs, measure, machine, board, most):
    """Whether this is the least exact sum machine, with at most so many states."""
    if not isinstance(machine, SumMachine) or machine.signs != signs:
        return False
    return machine.size <= most and machine == machine.least() and is_sum_exact(card, machine, measure, board=board)


def is_sum_right(card, signs, measure, answer, *, board="row", most=12):
    """Whether an answer is right, which is found out without trusting it."""
    check_fits(card, signs, board)
    scores = Scores(card, Measure(card, measure), board)
    if isinstance(answer, SumFound):
        is_shown = is_found(card, signs, measure, answer.machine, board, most)
    elif isinstance(answer, SumParted):
        is_shown = are_parted(answer.rows, answer.endings, signs, most, scores)
    else:
        return False
    return is_shown and are_guesses(answer.guesses, signs, most, scores)
