"""Measures of rows, found by playing rows out."""

from leapcard.cards import worth_in
from leapcard.errors import InvalidMeasure
from leapcard.leaps import Leaps
from leapcard.signs import least_turn, unmarked
from leapcard.sums import SumMachine


class Measure:
    """What a measure adds up: the worths of the pegs of a row, and the cost of a move.

    sense is 1 if the least number counts, -1 if the largest one does.
    """

    def __init__(self, card, name):
        if name not in ("left", "worth", "long"):
            raise InvalidMeasure(name)
        self.cost = int(name == "long")
        self.sense = -1 if name == "long" else 1
        table = {"left": [1 for _ in card.worths], "worth": list(card.worths), "long": [0 for _ in card.worths]}
        self.peg_worths = table[name]

    def base(self, row):
        """The number of a row that has no move."""
        return worth_in(self.peg_worths, row)


class Scores:
    """The measures of rows, found by playing rows out; remembers what it has found."""

    def __init__(self, card, measure, board):
        self.leaps = Leaps(card, board)
        self.measure = measure
        self.known = {}

    def score(self, row):
        """The measure of the row, whose signs have been checked."""
        text = unmarked(row)
        if self.leaps.is_ring:
            return self.played_out(least_turn(text))
        # no move crosses a wall, so what lies between walls can be played out by itself
        return sum([self.played_out(piece) for piece in text.split("#")])

    def afters_of(self, row):
        """The rows that one move leads to; on rings, a turned row in place of each one."""
        afters = [after for _, after in self.leaps.steps_of(row)]
        return [least_turn(after) for after in afters] if self.leaps.is_ring else afters

    def played_out(self, row):
        """The measure of a row without marks, by playing it out."""
        waiting = [row]
        onward = {}
        while len(waiting) > 0:
            here = waiting[-1]
            if here in self.known:
                waiting.pop()
                continue
            if here not in onward:
                onward[here] = self.afters_of(here)
            afters = onward[here]
            missing = [after for after in afters if after not in self.known]
            if len(missing) > 0:
                waiting.extend(missing)
            else:
                sense, cost = self.measure.sense, self.measure.cost
                numbers = [self.measure.base(here), *[cost + self.known[after] for after in afters]]
                self.known[here] = sense * min([sense * number for number in numbers])
        return self.known[row]

    def shown(self, row, ending):
        """What an ending shows of a row: what it adds to the row's measure."""
        return self.score(row + ending) - self.score(row)

    def is_wrong(self, machine, row):
        """Whether this is a sum machine that is wrong about the row."""
        return isinstance(machine, SumMachine) and machine.value(row) != self.score(row)
