"""What weights forbid: rows whose value no row of a lot has."""

from leapcard.checks import check_fits
from leapcard.errors import InvalidWeight
from leapcard.graphs import alive
from leapcard.machine import final_flags, least_machine
from leapcard.signs import KINDS, check_row, unmarked
from leapcard.weights import remainder


def sign_weights(weights, signs):
    """For each place of the period the weights of the signs; InvalidWeight if a peg has none."""
    kinds = [KINDS.find(unmarked(sign)) for sign in signs]
    if max(kinds) >= len(weights.table):
        raise InvalidWeight("table")
    return [[weights.table[kind][place] if kind >= 0 else 0 for kind in kinds] for place in range(weights.period)]


class Spread:
    """The pairs (state, value) that the rows of one length have, from which a row of the lot may come."""

    def __init__(self, weights, lot):
        self.modulus = weights.modulus
        self.table = sign_weights(weights, lot.signs)
        self.arrows = lot.arrows
        self.flags = final_flags(lot)
        self.useful = alive(lot.arrows, self.flags)
        self.begun = [(0, 0)] if self.useful[0] else []

    def onward(self, pairs, place):
        """The ascending list of the pairs behind one more sign, at this place of the period."""
        found = {}
        for state, total in pairs:
            for to, weight in zip(self.arrows[state], self.table[place]):
                if self.useful[to]:
                    found[to, remainder(total + weight, self.modulus)] = True
        return sorted(list(found))

    def values_in(self, pairs):
        """The ascending list of the values of the rows of the lot among these."""
        return sorted(set([total for state, total in pairs if self.flags[state]]))


def values_of(weights, lot, length):
    """The ascending list of the values of the rows of the lot of this length."""
    spread = Spread(weights, lot)
    pairs = spread.begun
    for place in range(length):
        pairs = spread.onward(pairs, place % weights.period)
    return spread.values_in(pairs)


def least_value(weights, lot, length):
    """The least value of the rows of the lot of this length, for modulus 0; None if there are none."""
    table = sign_weights(weights, lot.signs)
    rests = [0 if flag else None for flag in final_flags(lot)]
    for place in reversed(range(length)):
        steps = table[place % weights.period]
        rests = [min([weight + rests[to] for to, weight in zip(row, steps) if rests[to] is not None], default=None)
                 for row in lot.arrows]
    return rests[0]


def forbids(weights, card, lot, row):
    """Whether the weights show that no row of the lot is reached from the row."""
    check_fits(card, lot.signs, "row")
    check_row(row, lot.signs)
    is_kept, falls = weights.is_kept(card), weights.falls(card)
    if falls:
        least = least_value(weights, lot, len(row))
        if least is None or weights.value(row) < least:
            return True
    return is_kept and weights.value(row) not in values_of(weights, lot, len(row))


def let_through(weights, lot):
    """The machine of the rows with a value that some row of the lot of their length has."""
    if weights.modulus == 0:
        raise InvalidWeight("modulus")
    spread = Spread(weights, lot.least())
    lengths, repeat = lengths_of(spread, weights.period)
    values = [spread.values_in(pairs) for _, pairs in lengths]
    labels = [(0, 0)]
    numbers = {(0, 0): 0}
    arrows = []
    while len(arrows) < len(labels):
        length, total = labels[len(arrows)]
        after = length + 1 if length + 1 < len(lengths) else repeat
        ends = [(after, (total + weight) % weights.modulus) for weight in spread.table[lengths[length][0]]]
        for end in ends:
            if end not in numbers:
                numbers[end] = len(labels)
                labels.append(end)
        arrows.append([numbers[end] for end in ends])
    return least_machine(lot.signs, arrows, [total in values[length] for length, total in labels])


def lengths_of(spread, period):
    """For each length (place of the period, pairs), until they repeat; and the index at which they do so."""
    place, pairs = 0, spread.begun
    found = []
    met = {}
    while (place, tuple(pairs)) not in met:
        met[place, tuple(pairs)] = len(found)
        found.append((place, pairs))
        pairs = spread.onward(pairs, place)
        place = (place + 1) % period
    return found, met[place, tuple(pairs)]
