"""Whether a row of a lot is reached from a row, found by playing the row out."""

from leapcard.leaps import Leaps
from leapcard.machine import Machine, final_flags


class Hopes:
    """Plays rows out, and remembers what it has found."""

    def __init__(self, card, lot, board):
        self.leaps = Leaps(card, board)
        self.columns = {sign: at for at, sign in enumerate(lot.signs)}
        self.arrows = lot.arrows
        self.flags = final_flags(lot)
        self.known = {}

    def in_lot(self, row):
        """Whether the row is in the lot."""
        state = 0
        for sign in row:
            state = self.arrows[state][self.columns[sign]]
        return self.flags[state]

    def has_hope(self, row):
        """Whether a row of the lot is reached from the row, whose signs are the lot's."""
        waiting = [row]
        onward = {}
        while len(waiting) > 0:
            here = waiting[-1]
            if here not in self.known and here not in onward:
                if self.in_lot(here):
                    self.known[here] = True
                else:
                    onward[here] = [after for _, after in self.leaps.steps_of(here)]
            if here in self.known:
                waiting.pop()
                continue
            afters = onward[here]
            while len(afters) > 0 and not self.known.get(afters[-1], True):
                afters.pop()
            if len(afters) == 0:
                self.known[here] = False
            elif afters[-1] in self.known:
                self.known[here] = True
            else:
                waiting.append(afters[-1])
        return self.known[row]

    def shown(self, row, ending):
        """What an ending shows of a row: whether both together have hope."""
        return self.has_hope(row + ending)

    def is_wrong(self, machine, row):
        """Whether this is a machine that is wrong about the row."""
        return isinstance(machine, Machine) and (row in machine) != self.has_hope(row)
