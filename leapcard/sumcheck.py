"""Exact sum machines: the conditions that show them to be exact, and the tables that show two of these."""

from leapcard.beside import Beside, is_state, is_whole
from leapcard.checks import check_fits
from leapcard.scores import Measure
from leapcard.slacks import BaseSlack, MoveSlack
from leapcard.slopes import Slopes, least_below, least_untied, lowest_slacks


def slack_sources(card, machine, measure, board):
    """What the first and the second condition add up; the board, the machine and the measure are checked."""
    check_fits(card, machine.signs, board)
    told = Measure(card, measure)
    beside = Beside(card.pairs, machine.signs, machine.arrows, board)
    return BaseSlack(machine, told), MoveSlack(machine, told, beside)


def both_slopes(card, machine, measure, board):
    """The slopes of the first and of the second condition."""
    base, move = slack_sources(card, machine, measure, board)
    return Slopes(base, len(machine.signs)), Slopes(move, len(machine.signs))


def row_of(signs, way):
    """The row with these sign numbers; None if there are none."""
    return None if way is None else "".join([signs[at] for at in way])


def sum_breaks(card, machine, measure, *, board="row"):
    """For each of the three conditions the least row that violates it, or None."""
    base, move = both_slopes(card, machine, measure, board)
    first, second = row_of(machine.signs, least_below(base)), row_of(machine.signs, least_below(move))
    if first is not None or second is not None:
        return first, second, None
    return None, None, row_of(machine.signs, least_untied(base, move))


def least_sum_break(card, machine, measure, board):
    """The least one of the breaks, or None."""
    base, move = both_slopes(card, machine, measure, board)
    row = row_of(machine.signs, least_below(base, move))
    return row_of(machine.signs, least_untied(base, move)) if row is None else row


def is_sum_exact(card, machine, measure, *, board="row"):
    """Whether the value of every row is its measure."""
    base, move = both_slopes(card, machine, measure, board)
    if lowest_slacks(base) is None or lowest_slacks(move) is None:
        return False
    return least_untied(base, move) is None


def heights(card, machine, measure, *, board="row"):
    """The tables of the least slacks of the first two conditions, or None if one of these is violated."""
    base, move = both_slopes(card, machine, measure, board)
    low, low_moves = lowest_slacks(base), lowest_slacks(move)
    if low is None or low_moves is None:
        return None
    first = [(base.labels[number], height) for number, height in low.items()]
    second = [(*move.labels[number], height) for number, height in low_moves.items()]
    return sorted(first), sorted(second)


def is_high(source, known, width):
    """Whether heights of labels are low enough at the start and behind each sign, and high enough at the ends."""
    if not all([label in known and known[label] <= slack for label, slack in source.starts()]):
        return False
    for label, height in known.items():
        if source.may_end(label) and height < 0:
            return False
        for at in range(width):
            if not all([to in known and known[to] <= height + gain for to, gain in source.onward(label, at)]):
                return False
    return True


def are_heights(card, machine, measure, papers, *, board="row"):
    """Whether two lists of heights show, without a search, that the first two conditions hold."""
    base, move = slack_sources(card, machine, measure, board)
    if not isinstance(papers, (list, tuple)) or len(papers) != 2:
        return False
    first, second = papers
    if not all([isinstance(entry, tuple) and len(entry) == 2 and is_state(entry[0], machine.arrows)
                and is_whole(entry[1]) for entry in first]):
        return False
    if not all([isinstance(entry, tuple) and len(entry) == 3 and move.beside.has(entry[0])
                and is_state(entry[1], machine.arrows) and is_whole(entry[2]) for entry in second]):
        return False
    known = {state: height for state, height in first}
    known_moves = {(config, state): height for config, state, height in second}
    if len(known) < len(first) or len(known_moves) < len(second):
        return False
    width = len(machine.signs)
    return is_high(base, known, width) and is_high(move, known_moves, width)
