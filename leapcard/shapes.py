"""Machines made from machines by shaping their rows."""

from leapcard.checks import check_alike, check_sign_string
from leapcard.errors import Unlike
from leapcard.machine import final_flags, least_machine
from leapcard.signs import KINDS, signs_of, unmarked
from leapcard.subsets import single


def least_single(signs, starts, steps, ends):
    """The least machine of the rows that lead from one of the starts to one of the ends."""
    arrows, flags = single(starts, steps, ends, len(signs))
    return least_machine(signs, arrows, flags)


def mirrored(machine):
    """The machine of the mirror images of the rows."""
    steps = [[[] for _ in machine.signs] for _ in machine.arrows]
    for state, row in enumerate(machine.arrows):
        for at, to in enumerate(row):
            steps[to][at].append(state)
    return least_single(machine.signs, machine.finals, steps, [0])


def joined(first, second):
    """The machine of all rows u + v with u in the first and v in the second machine."""
    check_alike(first, second)
    flags = final_flags(first)
    start = len(flags)
    # behind each row of the first machine the second one may start, too
    steps = [[[to, start] if flags[to] else [to] for to in row] for row in first.arrows]
    steps.extend([[[start + to] for to in row] for row in second.arrows])
    starts = [0, start] if flags[0] else [0]
    return least_single(first.signs, starts, steps, [start + state for state in second.finals])


def repeated(machine):
    """The machine of all rows made of zero or more rows of the machine."""
    flags = final_flags(machine)
    start = len(flags)
    # a state of its own stands between two rows, so that state 0 need not be final
    steps = [[[to, start] if flags[to] else [to] for to in row] for row in machine.arrows]
    steps.append(list(steps[0]))
    return least_single(machine.signs, [start], steps, [start])


def behind(machine, row):
    """The machine of all endings that, behind the row, make a row of the machine."""
    return least_machine(machine.signs, machine.arrows, final_flags(machine), machine.state(row))


def widened(machine, signs):
    """The machine of the same rows over more signs."""
    check_sign_string(signs)
    if any([sign not in signs for sign in machine.signs]):
        raise Unlike(signs)
    lost = len(machine.arrows)
    arrows = []
    for row in machine.arrows:
        known = {sign: to for sign, to in zip(machine.signs, row)}
        arrows.append([known.get(sign, lost) for sign in signs])
    arrows.append([lost for _ in signs])
    return least_machine(signs, arrows, [*final_flags(machine), False])


def narrowed(machine, signs):
    """The machine, over these signs, of the rows that have no other signs."""
    check_sign_string(signs)
    if any([sign not in machine.signs for sign in signs]):
        raise Unlike(signs)
    columns = [machine.signs.index(sign) for sign in signs]
    arrows = [[row[at] for at in columns] for row in machine.arrows]
    return least_machine(signs, arrows, final_flags(machine))


def with_marks(machine):
    """The machine of the rows, marked in any way, whose plain row is in the machine."""
    wider = marked_signs(machine.signs)
    columns = [machine.signs.index(unmarked(sign)) for sign in wider]
    arrows = [[row[at] for at in columns] for row in machine.arrows]
    return least_machine(wider, arrows, final_flags(machine))


def marked_signs(signs):
    """The sign string with marks to a sign string without them; Unlike for other signs."""
    for kinds in range(1, len(KINDS) + 1):
        for walls in (False, True):
            if signs == signs_of(kinds, walls=walls):
                return signs_of(kinds, walls=walls, marks=True)
    raise Unlike(signs)
