"""Exact machines: the conditions that show them to be exact, and the tables that show the conditions."""

from leapcard.beside import Beside, Sweep, is_done, is_state
from leapcard.checks import check_alike, check_fits
from leapcard.compare import first_outside
from leapcard.graphs import paired
from leapcard.machine import final_flags


def check_lot(card, machine, lot, board):
    """Check the board, the machine and the lot, in this order."""
    check_fits(card, machine.signs, board)
    check_alike(machine, lot)


def sweep_of(card, machine, board):
    """The configurations that rows give."""
    return Sweep(Beside(card.pairs, machine.signs, machine.arrows, board))


def each_triple(machine, lot, starts, steps, longest):
    """(row, p, t, numbers): the states of the machine and of the lot, and the numbers of all configurations.

    Each such triple comes once, with its least row; the rows come in shortlex order. Rows that are
    longer than the longest length are left out, if it is not None.
    """
    start = (0, 0, tuple(starts))
    found = {start: True}
    queue = [("", *start)]
    taken = 0
    while taken < len(queue):
        row, state, lot_state, numbers = queue[taken]
        taken += 1
        yield row, state, lot_state, numbers
        if longest is not None and len(row) >= longest:
            continue
        for at, sign in enumerate(machine.signs):
            behind = tuple(sorted(set([to for number in numbers for to in steps[number][at]])))
            triple = (machine.arrows[state][at], lot.arrows[lot_state][at], behind)
            if triple not in found:
                found[triple] = True
                queue.append((row + sign, *triple))


def each_group(machine, starts, steps):
    """(row, p, numbers): the configurations that this row is the first to give with this state of the machine.

    The rows come in shortlex order, so each configuration comes with the least row for it and p.
    """
    found = {(0, number): True for number in starts}
    queue = [("", 0, starts)]
    taken = 0
    while taken < len(queue):
        row, state, numbers = queue[taken]
        taken += 1
        yield row, state, numbers
        for at, sign in enumerate(machine.signs):
            end = machine.arrows[state][at]
            behind = sorted(set([to for number in numbers for to in steps[number][at]]))
            fresh = [to for to in behind if (end, to) not in found]
            for to in fresh:
                found[end, to] = True
            if len(fresh) > 0:
                queue.append((row + sign, end, fresh))


def second_break(machine, lot, sweep, longest):
    """The least row, at most that long, that is in the machine, not in the lot, and has no move into the machine."""
    flags, lot_flags = final_flags(machine), final_flags(lot)
    goods = sweep.good_flags(flags)
    starts, steps = sweep.hopeful(flags)
    for row, state, lot_state, numbers in each_triple(machine, lot, starts, steps, longest):
        if flags[state] and not lot_flags[lot_state] and not any([goods[number] for number in numbers]):
            return row
    return None


def third_break(machine, sweep):
    """The least row that has a move into the machine and is not in it."""
    flags = final_flags(machine)
    goods = sweep.good_flags(flags)
    starts, steps = sweep.hopeful(flags)
    for row, state, numbers in each_group(machine, starts, steps):
        if not flags[state] and any([goods[number] for number in numbers]):
            return row
    return None


def least_break(card, machine, lot, board):
    """The least one of the breaks, or None; nothing is checked."""
    sweep = sweep_of(card, machine, board)
    found = [row for row in (first_outside(lot, machine), third_break(machine, sweep)) if row is not None]
    # the search for the second break can be the longest one, so it does not go beyond the others
    longest = min([len(row) for row in found], default=None)
    row = second_break(machine, lot, sweep, longest)
    if row is not None:
        found.append(row)
    _, least = min([(len(row), row) for row in found], default=(0, None))
    return least


def breaks(card, machine, lot, *, board="row"):
    """For each of the three conditions the least row that violates it, or None."""
    check_lot(card, machine, lot, board)
    sweep = sweep_of(card, machine, board)
    return first_outside(lot, machine), second_break(machine, lot, sweep, None), third_break(machine, sweep)


def is_exact(card, machine, lot, *, board="row"):
    """Whether the machine has exactly the rows from which a row of the lot is reached."""
    check_lot(card, machine, lot, board)
    if first_outside(lot, machine) is not None:
        return False
    sweep = sweep_of(card, machine, board)
    return third_break(machine, sweep) is None and second_break(machine, lot, sweep, None) is None


def tables(card, machine, lot, *, board="row"):
    """The three ascending lists of entries that reading all rows can give."""
    check_lot(card, machine, lot, board)
    sweep = sweep_of(card, machine, board)
    starts, steps, configs = sweep.start_numbers, sweep.steps, sweep.configs
    _, pairs = paired(lot.arrows, machine.arrows)
    triples = [(state, lot_state, tuple([configs[number] for number in numbers]))
               for _, state, lot_state, numbers in each_triple(machine, lot, starts, steps, None)]
    singles = [(configs[number], state)
               for _, state, numbers in each_group(machine, starts, steps) for number in numbers]
    return sorted(pairs), sorted(triples), sorted(singles)


def is_first_closed(machine, lot, entries):
    """Whether the entries (t, p) are closed, and none is bad."""
    if not all([isinstance(entry, tuple) and len(entry) == 2 and is_state(entry[0], lot.arrows)
                and is_state(entry[1], machine.arrows) for entry in entries]):
        return False
    flags, lot_flags = final_flags(machine), final_flags(lot)
    known = {entry: True for entry in entries}
    for lot_state, state in list(known):
        if lot_flags[lot_state] and not flags[state]:
            return False
        if not all([pair in known for pair in zip(lot.arrows[lot_state], machine.arrows[state])]):
            return False
    return (0, 0) in known


def is_triple(entry, machine, lot, beside):
    """Whether this is an entry of the second table."""
    if not isinstance(entry, tuple) or len(entry) != 3:
        return False
    state, lot_state, configs = entry
    if not is_state(state, machine.arrows) or not is_state(lot_state, lot.arrows) or not isinstance(configs, tuple):
        return False
    if not all([beside.has(config) for config in configs]):
        return False
    return all([config < after for config, after in zip(configs, configs[1:])])


def is_second_closed(machine, lot, beside, entries):
    """Whether the entries (p, t, configs) are closed, and none is bad."""
    if not all([is_triple(entry, machine, lot, beside) for entry in entries]):
        return False
    flags, lot_flags = final_flags(machine), final_flags(lot)
    known = {entry: True for entry in entries}
    onward = beside.onward_from([config for _, _, configs in entries for config in configs])
    for state, lot_state, configs in list(known):
        is_good = any([is_done(config) and flags[config[1]] for config in configs])
        if flags[state] and not lot_flags[lot_state] and not is_good:
            return False
        for at, states in enumerate(zip(machine.arrows[state], lot.arrows[lot_state])):
            behind = tuple(sorted(set([to for config in configs for to in onward[config][at]])))
            if (*states, behind) not in known:
                return False
    return (0, 0, tuple(beside.starts())) in known


def is_third_closed(machine, beside, entries):
    """Whether the entries (config, p) are closed, and none is bad."""
    if not all([isinstance(entry, tuple) and len(entry) == 2 and beside.has(entry[0])
                and is_state(entry[1], machine.arrows) for entry in entries]):
        return False
    flags = final_flags(machine)
    known = {entry: True for entry in entries}
    onward = beside.onward_from([config for config, _ in entries])
    for config, state in list(known):
        if is_done(config) and flags[config[1]] and not flags[state]:
            return False
        for at, end in enumerate(machine.arrows[state]):
            if not all([(to, end) in known for to in onward[config][at]]):
                return False
    return all([(config, 0) in known for config in beside.starts()])


def are_closed(card, machine, lot, papers, *, board="row"):
    """Whether three lists of entries show, without a search, that the machine is exact."""
    check_lot(card, machine, lot, board)
    if len(papers) != 3:
        return False
    beside = Beside(card.pairs, machine.signs, machine.arrows, board)
    first, second, third = papers
    return (is_first_closed(machine, lot, first) and is_second_closed(machine, lot, beside, second)
            and is_third_closed(machine, beside, third))
