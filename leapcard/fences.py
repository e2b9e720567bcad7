"""Rows without fences: free places may be added at an end that has no fence."""

from leapcard.errors import InvalidMachine
from leapcard.graphs import alive
from leapcard.machine import final_flags, least_machine
from leapcard.signs import check_row
from leapcard.subsets import single


def free_ends(machine):
    """For each state, the state behind one more free place; InvalidMachine if there are no free places."""
    if "." not in machine.signs:
        raise InvalidMachine("signs")
    at = machine.signs.index(".")
    return [row[at] for row in machine.arrows]


def free_way(onward, state):
    """The different states behind no, one, two .. free places, from this state on."""
    met = {state: True}
    while onward[state] not in met:
        state = onward[state]
        met[state] = True
    return list(met)


def unfenced(machine, *, left=True, right=True):
    """The machine of the rows that free places at the ends without a fence make rows of the machine."""
    onward = free_ends(machine)
    flags = final_flags(machine)
    starts = free_way(onward, 0) if left else [0]
    if right:
        flags = alive([[to] for to in onward], flags)
    steps = [[[to] for to in row] for row in machine.arrows]
    arrows, shades = single(starts, steps, [state for state, flag in enumerate(flags) if flag], len(machine.signs))
    return least_machine(machine.signs, arrows, shades)


def state_from(machine, state, row):
    """The state that a row leads to from this state on; the row is checked."""
    for sign in row:
        state = machine.arrows[state][machine.signs.find(sign)]
    return state


def room(machine, row, *, left=True, right=True):
    """The fewest free places to the left and to the right that make the row one of the machine, or None."""
    onward = free_ends(machine)
    check_row(row, machine.signs)
    flags = final_flags(machine)
    found = []
    for before, start in enumerate(free_way(onward, 0) if left else [0]):
        end = state_from(machine, start, row)
        rests = free_way(onward, end) if right else [end]
        afters = [after for after, state in enumerate(rests) if flags[state]]
        if len(afters) > 0:
            found.append((before + afters[0], before, afters[0]))
    if len(found) == 0:
        return None
    _, before, after = min(found)
    return before, after
