"""Weights of pegs by their kinds and places."""

from leapcard.errors import InvalidRow, InvalidWeight
from leapcard.signs import KINDS, check_row, unmarked

MOST_PERIOD = 12
MOST_MODULUS = 97


def check_period(period):
    """Raise InvalidWeight if there is no such period."""
    if not 1 <= period <= MOST_PERIOD:
        raise InvalidWeight("period")


def is_table(table, period):
    """Whether this is a list of so many weights for each of 1 to 4 kinds."""
    return 1 <= len(table) <= len(KINDS) and all([len(row) == period for row in table])


def remainder(number, modulus):
    """The number modulo the modulus; the number itself if the modulus is 0."""
    return number if modulus == 0 else number % modulus


def changes_of(card, period, kinds):
    """The different changes that a move makes, wherever its window begins in the period.

    A change is a tuple with one number for each kind and place, kind by kind: by how many pegs of
    this kind there are more at such places.
    """
    found = {}
    for before, after in card.pairs:
        for begin in range(period):
            change = [0 for _ in range(kinds * period)]
            for window, step in ((before, -1), (after, 1)):
                for place, sign in enumerate(window):
                    if sign != ".":
                        at = KINDS.find(sign) * period + (begin + place) % period
                        change[at] = change[at] + step
            found[tuple(change)] = True
    return list(found)


def rises(weights, card):
    """By how much the value of a row rises at the moves of the card, for each kind of change."""
    if len(card.worths) > len(weights.table):
        raise InvalidWeight("table")
    flat = [number for row in weights.table for number in row]
    changes = changes_of(card, weights.period, len(weights.table))
    return [sum([count * number for count, number in zip(change, flat)]) for change in changes]


def summed(weights, other, factor):
    """The weights plus a multiple of other weights; InvalidWeight if they do not go together."""
    if weights.period != other.period:
        raise InvalidWeight("period")
    if weights.modulus != other.modulus:
        raise InvalidWeight("modulus")
    if len(weights.table) != len(other.table):
        raise InvalidWeight("table")
    table = [[x + factor * y for x, y in zip(row, others)] for row, others in zip(weights.table, other.table)]
    return Weights(weights.period, weights.modulus, table)


def multiple(weights, factor):
    """The weights times a factor."""
    return Weights(weights.period, weights.modulus, [[factor * number for number in row] for row in weights.table])


class Weights:
    """A weight for a peg of each kind at each place of the period; values modulo the modulus, if it is not 0."""

    def __init__(self, period, modulus, table):
        check_period(period)
        if modulus != 0 and not 2 <= modulus <= MOST_MODULUS:
            raise InvalidWeight("modulus")
        if not is_table(table, period):
            raise InvalidWeight("table")
        self.period = period
        self.modulus = modulus
        self.table = tuple([tuple([remainder(number, modulus) for number in row]) for row in table])

    def value(self, row):
        """The sum of the weights of the pegs of the row."""
        check_row(row)
        total = 0
        for place, sign in enumerate(unmarked(row)):
            if sign in KINDS:
                kind = KINDS.index(sign)
                if kind >= len(self.table):
                    raise InvalidRow(row)
                total = total + self.table[kind][place % self.period]
        return remainder(total, self.modulus)

    def is_kept(self, card):
        """Whether no move of the card changes the value of a row."""
        return all([remainder(rise, self.modulus) == 0 for rise in rises(self, card)])

    def falls(self, card):
        """Whether no move of the card makes the value of a row greater; False where values have a modulus."""
        numbers = rises(self, card)
        return self.modulus == 0 and all([rise <= 0 for rise in numbers])

    def __add__(self, other):
        return summed(self, other, 1)

    def __sub__(self, other):
        return summed(self, other, -1)

    def __neg__(self):
        return multiple(self, -1)

    def __mul__(self, number):
        return multiple(self, number)

    def __eq__(self, other):
        return (isinstance(other, Weights) and self.period == other.period and self.modulus == other.modulus
                and self.table == other.table)
