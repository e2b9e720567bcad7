"""Rows as rings: turned rows, and what a ring reaches that a row does not."""

from leapcard.compare import first_outside
from leapcard.graphs import alive, way_to
from leapcard.machine import final_flags, least_machine
from leapcard.subsets import single
from leapcard.twocards import learned


def states_behind(arrows, useful):
    """For each useful state, the states that rows lead to from it, by way of useful states."""
    found = {}
    for start in [state for state, flag in enumerate(useful) if flag]:
        met = {start: True}
        waiting = [start]
        while len(waiting) > 0:
            state = waiting.pop()
            for to in arrows[state]:
                if useful[to] and to not in met:
                    met[to] = True
                    waiting.append(to)
        found[start] = met
    return found


class Turning:
    """Reading turned rows: first the end of a row of the machine, from some state on, and then its beginning.

    A label (guess, state, wraps) tells the state from which the end was read, the present state, and
    whether the beginning is being read, which must lead to the guess.
    """

    def __init__(self, arrows, flags):
        self.arrows = arrows
        self.flags = flags
        self.useful = alive(arrows, flags)
        self.behind = states_behind(arrows, self.useful)

    def entered(self, guess, state):
        """The labels where the end of a row has led to a state."""
        found = [(guess, state, False)] if self.useful[state] else []
        if self.flags[state]:
            found.append((guess, 0, True))
        return found

    def starts(self):
        """The labels before anything is read."""
        return [label for guess in self.behind for label in self.entered(guess, guess)]

    def steps_of(self, label):
        """A list for each sign: the labels that the sign leads to."""
        guess, state, wraps = label
        if not wraps:
            return [self.entered(guess, to) for to in self.arrows[state]]
        return [[(guess, to, True)] if self.useful[to] and guess in self.behind[to] else []
                for to in self.arrows[state]]


def numbered_steps(turning):
    """The start numbers, the steps by numbers, and the numbers where a turned row may end."""
    labels = turning.starts()
    numbers = {label: number for number, label in enumerate(labels)}
    starts = list(range(len(labels)))
    steps = []
    while len(steps) < len(labels):
        row = turning.steps_of(labels[len(steps)])
        for step in row:
            for to in step:
                if to not in numbers:
                    numbers[to] = len(labels)
                    labels.append(to)
        steps.append([[numbers[to] for to in step] for step in row])
    ends = [number for number, label in enumerate(labels) if label[2] and label[0] == label[1]]
    return starts, steps, ends


def unturned(machine):
    """The least row of the machine that, turned by one place, is not in the machine, or None."""
    least = machine.least()
    arrows, flags = least.arrows, final_flags(least)
    # a label tells the first sign, the state behind the row, and the state behind the row without that sign
    steps = {(): None}
    queue = []
    for first, to in enumerate(arrows[0]):
        steps[first, to, 0] = ((), first)
        queue.append((first, to, 0))
    taken = 0
    while taken < len(queue):
        label = queue[taken]
        taken += 1
        first, state, rest = label
        if flags[state] and not flags[arrows[rest][first]]:
            return "".join([least.signs[at] for at in way_to(steps, label)])
        for at, to in enumerate(arrows[state]):
            after = (first, to, arrows[rest][at])
            if after not in steps:
                steps[after] = (label, at)
                queue.append(after)
    return None


def all_turns(machine):
    """The machine of the rows of which at least one turned row is in the machine."""
    least = machine.least()
    if unturned(machine) is None:
        return least
    starts, steps, ends = numbered_steps(Turning(least.arrows, final_flags(least)))
    arrows, shades = single(starts, steps, ends, len(least.signs))
    return least_machine(least.signs, arrows, shades)


def ring_gain(card, lot, *, most=12):
    """The least row from which a row of the lot is reached on the ring but not on the row, or None."""
    on_row = learned(card, lot, "row", most)
    return first_outside(learned(card, lot, "ring", most), on_row)
