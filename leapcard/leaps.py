"""The moves of a card on a board, for rows that have been checked."""

from leapcard.signs import MARKED, all_marked, unmarked

WIDTHS = (3, 4)


def window_table(windows):
    """The numbers of equal windows by the windows themselves."""
    table = {}
    for number, window in enumerate(windows):
        table.setdefault(window, []).append(number)
    return table


def spots(row, table, is_ring):
    """The ascending list of all (place, number) where a window of the table lies in the row."""
    text = unmarked(row)
    found = []
    for width in WIDTHS:
        # a window that is longer than the ring would meet a place twice
        line = text + text[:width - 1] if is_ring and width <= len(text) else text
        for place in range(len(line) - width + 1):
            for number in table.get(line[place:place + width], ()):
                found.append((place, number))
    return sorted(found)


def written(row, place, window):
    """The row with the signs of a window from this place on; the marks stay at their places."""
    signs = list(row)
    for step, sign in enumerate(window):
        at = (place + step) % len(row)
        signs[at] = all_marked(sign) if signs[at] in MARKED else sign
    return "".join(signs)


class Leaps:
    """The moves of one card on one board."""

    def __init__(self, card, board):
        self.pairs = card.pairs
        self.is_ring = board == "ring"
        self.befores = window_table([before for before, _ in card.pairs])
        self.afters = window_table([after for _, after in card.pairs])

    def moves_of(self, row):
        """The ascending list of the moves of the row."""
        return spots(row, self.befores, self.is_ring)

    def made(self, row, move):
        """The row after one of its moves."""
        place, pair = move
        return written(row, place, self.pairs[pair][1])

    def steps_of(self, row):
        """The moves of the row in ascending order, each with the row that it leads to."""
        return [(move, self.made(row, move)) for move in self.moves_of(row)]

    def rows_behind(self, row):
        """The rows from which one move leads to the row; a row may come twice."""
        return [written(row, place, self.pairs[pair][0])
                for place, pair in spots(row, self.afters, self.is_ring)]

    def places_of(self, row, move):
        """The places of the window of one of the row's moves."""
        place, pair = move
        return [(place + step) % len(row) for step in range(len(self.pairs[pair][0]))]
