"""Slacks: by how much the values of a sum machine keep to a measure, summed up while a row is read.

A slack is written so that it must not fall below 0 at the end of a row. It belongs to a label: to a
state of the machine (the first condition), or to a configuration and a state (the second one).
"""

from leapcard.beside import is_done


class BaseSlack:
    """The slack of a row's value against the base of the measure; labels are states."""

    def __init__(self, machine, measure):
        self.machine = machine
        self.gains = [[measure.sense * (measure.base(sign) - number) for sign, number in zip(machine.signs, row)]
                      for row in machine.sums]

    def starts(self):
        """The labels before anything is read, with their slacks."""
        return [(0, 0)]

    def onward(self, label, at):
        """The labels behind sign number at, each with the slack that the sign adds."""
        return [(self.machine.arrows[label][at], self.gains[label][at])]

    def may_end(self, label):
        """Whether a row may end here, which is so everywhere."""
        return True


class MoveSlack:
    """The slack of a row's value against that of the row after a move; labels are (configuration, state)."""

    def __init__(self, machine, measure, beside):
        self.machine = machine
        self.measure = measure
        self.beside = beside

    def starts(self):
        """The labels before anything is read, with their slacks."""
        slack = self.measure.sense * self.measure.cost
        return [((config, 0), slack) for config in self.beside.starts()]

    def onward(self, label, at):
        """The labels behind sign number at, each with the slack that the sign adds."""
        config, state = label
        end = self.machine.arrows[state][at]
        own, changed = self.machine.sums[state][at], self.machine.sums[config[1]]
        return [((to, end), self.measure.sense * (changed[column] - own))
                for to, column in self.beside.onward(config, at)]

    def may_end(self, label):
        """Whether a row may end here."""
        return is_done(label[0])
