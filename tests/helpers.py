"""What several tests need: one way to look at errors, and plain readings of the document."""

import unittest

from leapcard.cards import Card
from leapcard.errors import InvalidCard
from leapcard.jumps import Jump
from leapcard.machine import Machine

ALL_SIGNS = "#.:ABCDabcd"


class LeapTest(unittest.TestCase):
    def fails(self, error, attribute, value, call, *args, **more):
        """The call raises exactly this class of error, with this one attribute."""
        with self.assertRaises(error) as caught:
            call(*args, **more)
        self.assertIs(type(caught.exception), error)
        self.assertEqual(vars(caught.exception), {attribute: value})


def rows_of(signs, length):
    """All rows of one length, in ascending order."""
    rows = [""]
    for _ in range(length):
        rows = [row + sign for row in rows for sign in signs]
    return rows


def rows_up_to(signs, most):
    """All rows up to a length, in shortlex order."""
    return [row for length in range(most + 1) for row in rows_of(signs, length)]


def plain_sign(sign):
    return {":": ".", "A": "a", "B": "b", "C": "c", "D": "d"}.get(sign, sign)


def marked_sign(sign):
    return {".": ":", "a": "A", "b": "B", "c": "C", "d": "D"}[sign]


def plain_moves(card, row, board):
    """The moves as point 9 tells them, window by window."""
    found = []
    size = len(row)
    for place in range(size):
        for pair, (before, _) in enumerate(card.pairs):
            width = len(before)
            if board == "row" and place + width > size or width > size:
                continue
            seen = [plain_sign(row[(place + i) % size]) for i in range(width)]
            if seen == list(before):
                found.append((place, pair))
    return found


def plain_after(card, row, move):
    """The row after a move of the row, place by place."""
    place, pair = move
    signs = list(row)
    for i, sign in enumerate(card.pairs[pair][1]):
        at = (place + i) % len(row)
        is_marked = row[at] != plain_sign(row[at])
        signs[at] = marked_sign(sign) if is_marked else sign
    return "".join(signs)


def plain_plays(card, row, board):
    """All plays from a row with their last rows, the empty play too."""
    plays = [([], row)]
    for play, end in plays:
        for move in plain_moves(card, end, board):
            plays.append((play + [move], plain_after(card, end, move)))
    return plays


def plain_reached(card, row, board):
    """The set of the rows that plays lead to."""
    found = {row}
    queue = [row]
    for here in queue:
        for move in plain_moves(card, here, board):
            after = plain_after(card, here, move)
            if after not in found:
                found.add(after)
                queue.append(after)
    return found


def plain_next(card, row, board):
    """The set of the rows that one move leads to."""
    return {plain_after(card, row, move) for move in plain_moves(card, row, board)}


def shortlex_key(row):
    return len(row), row


def least_of(rows):
    """The least row in shortlex order, or None."""
    return min(rows, key=shortlex_key, default=None)


def plain_pegs(row):
    return len([sign for sign in row if plain_sign(sign) in "abcd"])


def plain_worth(card, row):
    return sum(card.worths["abcd".index(plain_sign(sign))] for sign in row if plain_sign(sign) in "abcd")


def plain_measure(card, row, measure, board):
    """The measure of a row as point 29 tells it first."""
    if measure == "left":
        return min(plain_pegs(end) for end in plain_reached(card, row, board))
    if measure == "worth":
        return min(plain_worth(card, end) for end in plain_reached(card, row, board))
    return max([1 + plain_measure(card, after, measure, board) for after in plain_next(card, row, board)], default=0)


def plain_base(card, row, measure):
    return {"left": plain_pegs(row), "worth": plain_worth(card, row), "long": 0}[measure]


def some_machine(random, signs, size, chance=0.4):
    """A machine with arrows and finals of a random source that always gives the same ones."""
    arrows = [[random.randrange(size) for _ in signs] for _ in range(size)]
    return Machine(signs, arrows, [state for state in range(size) if random.random() < chance])


def plain_hope(card, row, lot, board):
    """Whether a row of the lot is reached, as point 12 tells it."""
    return any(end in lot for end in plain_reached(card, row, board))


def some_card(random, kinds, count):
    """A card with jumps of a random source that always gives the same ones."""
    worths = [random.randrange(1, 4) for _ in range(kinds)]
    card = Card(worths, [])
    while len(card) < count:
        size = random.choice((2, 2, 2, 3))
        before = "".join(random.choice("abcd"[:kinds]) for _ in range(size)) + "."
        after = "." + "".join(random.choice("." + "abcd"[:kinds]) for _ in range(size))
        try:
            card = card + Jump(before, after, random.choice(("right", "left", "both")))
        except InvalidCard:
            # this jump does not lower the worth, or the card has it already
            continue
    return card
