"""Machines that add: their arrows carry integers, and a row has the sum of those that it takes."""

from leapcard.checks import check_alike, check_sign_string
from leapcard.errors import InvalidMachine
from leapcard.graphs import least_form, paired
from leapcard.machine import check_arrows, least_machine, state_behind
from leapcard.signs import check_row


def least_sums(signs, arrows, sums):
    """The least sum machine with the values that these arrows give."""
    # two states read on alike if each row takes both over the same integers, sign by sign
    rows, merged = least_form(arrows, [tuple(row) for row in sums], 0)
    return SumMachine(signs, rows, merged)


def added(first, second, factor):
    """The least sum machine of the first values plus the second ones times a factor."""
    check_alike(first, second)
    arrows, pairs = paired(first.arrows, second.arrows)
    sums = [[x + factor * y for x, y in zip(first.sums[p], second.sums[q])] for p, q in pairs]
    return least_sums(first.signs, arrows, sums)


def scaled(machine, factor):
    """The least sum machine of the values times a factor."""
    return least_sums(machine.signs, machine.arrows, [[factor * number for number in row] for row in machine.sums])


class SumMachine:
    """A machine whose arrows carry integers."""

    def __init__(self, signs, arrows, sums):
        check_sign_string(signs)
        check_arrows(signs, arrows)
        if [len(row) for row in sums] != [len(signs) for _ in arrows]:
            raise InvalidMachine("sums")
        self.signs = signs
        self.arrows = tuple([tuple(row) for row in arrows])
        self.sums = tuple([tuple(row) for row in sums])

    @property
    def size(self):
        """The number of states."""
        return len(self.arrows)

    def state(self, row):
        """The state that the row leads to."""
        return state_behind(self.signs, self.arrows, row)

    def value(self, row):
        """The sum of the integers of the arrows that the row takes."""
        check_row(row, self.signs)
        columns = {sign: at for at, sign in enumerate(self.signs)}
        state = 0
        total = 0
        for sign in row:
            at = columns[sign]
            total = total + self.sums[state][at]
            state = self.arrows[state][at]
        return total

    def least(self):
        """The sum machine with the same values and the fewest states."""
        return least_sums(self.signs, self.arrows, self.sums)

    def at_most(self, number):
        """The machine of the rows whose value is at most the number."""
        least = self.least()
        if any([carried < 0 for row in least.sums for carried in row]):
            raise InvalidMachine("sums")
        # state 0 is the start; a total above the number is kept as number + 1
        over = number + 1
        states = [(0, min(0, over))]
        numbers = {states[0]: 0}
        arrows = []
        while len(arrows) < len(states):
            state, total = states[len(arrows)]
            ends = [(to, min(total + carried, over))
                    for to, carried in zip(least.arrows[state], least.sums[state])]
            for end in ends:
                if end not in numbers:
                    numbers[end] = len(states)
                    states.append(end)
            arrows.append([numbers[end] for end in ends])
        return least_machine(self.signs, arrows, [total < over for _, total in states])

    def __add__(self, other):
        return added(self, other, 1)

    def __sub__(self, other):
        return added(self, other, -1)

    def __neg__(self):
        return scaled(self, -1)

    def __mul__(self, number):
        return scaled(self, number)

    def __eq__(self, other):
        return (isinstance(other, SumMachine) and self.signs == other.signs and self.arrows == other.arrows
                and self.sums == other.sums)

    @staticmethod
    def zero(signs):
        """The sum machine with the value 0 for every row."""
        return SumMachine(signs, [[0 for _ in signs]], [[0 for _ in signs]])

    @staticmethod
    def weights(signs, table):
        """The sum machine that adds the table's weights of the signs; 0 for a sign that it does not have."""
        return SumMachine(signs, [[0 for _ in signs]], [[table.get(sign, 0) for sign in signs]])
