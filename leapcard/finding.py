"""Finding the weights that the moves of a card keep, and those that never rise."""

from leapcard.errors import InvalidWeight, TooMany
from leapcard.weights import MOST_MODULUS, Weights, changes_of, check_period

MOST_TABLES = 20000


def is_prime(number):
    """Whether the number is a prime."""
    return number > 1 and all([number % factor != 0 for factor in range(2, number)])


def scaled_row(row, factor, modulus):
    """The numbers of a row times a factor."""
    return [factor * number % modulus for number in row]


def taken_off(row, other, at, modulus):
    """The row less so much of another one, which has 1 there, that it has 0 at this index."""
    return [(x - row[at] * y) % modulus for x, y in zip(row, other)]


def echelon(rows, modulus):
    """The reduced echelon form modulo a prime: (index of the first number, row) for each of its rows."""
    found = []
    for row in rows:
        rest = scaled_row(row, 1, modulus)
        for pivot, other in found:
            rest = taken_off(rest, other, pivot, modulus)
        places = [at for at, number in enumerate(rest) if number != 0]
        if len(places) > 0:
            first = places[0]
            inverse = [factor for factor in range(modulus) if factor * rest[first] % modulus == 1][0]
            rest = scaled_row(rest, inverse, modulus)
            found = [(pivot, taken_off(other, rest, first, modulus)) for pivot, other in found]
            found.append((first, rest))
    return sorted(found)


def kept_rows(changes, width, modulus):
    """The reduced echelon form of the rows that are 0 on every change."""
    # read from right to left, each equation says its last weight by weights that stand before it;
    # so, with one of the other weights 1 and the rest of them 0, this 1 stands first
    rules = echelon([change[::-1] for change in changes], modulus)
    bound = {pivot: row for pivot, row in rules}
    rows = []
    for free in range(width):
        if free not in bound:
            row = [-bound[at][free] % modulus if at in bound else int(at == free) for at in range(width)]
            rows.append(row[::-1])
    return rows[::-1]


def as_table(numbers, period):
    """The numbers as a table, kind by kind."""
    return [numbers[at:at + period] for at in range(0, len(numbers), period)]


def kept_weights(card, period, modulus):
    """The weights from which all kept ones can be summed up, as the rows of the reduced echelon form."""
    check_period(period)
    if modulus > MOST_MODULUS or not is_prime(modulus):
        raise InvalidWeight("modulus")
    kinds = len(card.worths)
    rows = kept_rows(changes_of(card, period, kinds), kinds * period, modulus)
    return [Weights(period, modulus, as_table(row, period)) for row in rows]


def count_up(numbers, high):
    """The next list of numbers from 0 to high in ascending order, or None behind the last one."""
    at = len(numbers) - 1
    while at >= 0 and numbers[at] == high:
        at -= 1
    if at < 0:
        return None
    return [*numbers[:at], numbers[at] + 1, *[0 for _ in numbers[at + 1:]]]


def never_rises(numbers, sums):
    """Whether no sum of counts and numbers is above 0; a sum is a list of (index, count)."""
    for parts in sums:
        if sum([count * numbers[at] for at, count in parts]) > 0:
            return False
    return True


def falling_weights(card, period, high):
    """All weights from 0 to high that never rise, ascending by their tables."""
    check_period(period)
    kinds = len(card.worths)
    count = 1
    for _ in range(kinds * period):
        count = count * (high + 1)
    if count > MOST_TABLES:
        raise TooMany(MOST_TABLES)
    sums = [[(at, number) for at, number in enumerate(change) if number != 0]
            for change in changes_of(card, period, kinds)]
    found = []
    numbers = [0 for _ in range(kinds * period)]
    while numbers is not None:
        if never_rises(numbers, sums):
            found.append(Weights(period, 0, as_table(numbers, period)))
        numbers = count_up(numbers, high)
    return found
