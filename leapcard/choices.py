"""Choices of candidates for a card, and for which of them something is true.

The choices are numbered. What is true for some of them is told by an integer: bit number c is 1 if
it is true for choice number c.
"""

from leapcard.cards import Card
from leapcard.errors import InvalidCard
from leapcard.leaps import WIDTHS, Leaps

MOST_CANDIDATES = 8


def card_of_all(worths, candidates, known):
    """The card with all known jumps and all candidates; raises InvalidCard if there is none."""
    whole = Card(worths, [*known, *candidates])
    if not 1 <= len(candidates) <= MOST_CANDIDATES:
        raise InvalidCard("jumps")
    return whole


def all_choices(count):
    """The ascending list of all choices of so many candidates."""
    choices = [()]
    for index in range(count):
        choices = choices + [(*choice, index) for choice in choices]
    return sorted(choices)


class Choices:
    """All choices of candidates for a card that has been checked, and their moves on the board row."""

    def __init__(self, whole, candidates):
        self.whole = whole
        self.listed = all_choices(len(candidates))
        self.every = self.bits([True for _ in self.listed])
        self.leaps = Leaps(whole, "row")
        # each window pair belongs to the choices with one of its jumps; a known jump is on every card
        texts = [str(jump) for jump in candidates]
        owners = [self.having(texts.index(str(jump))) if str(jump) in texts else self.every for jump in whole.jumps]
        self.makers = [self.united([bits for jump, bits in zip(whole.jumps, owners) if pair in jump.windows()])
                       for pair in whole.pairs]

    def bits(self, flags):
        """The integer for a list of flags, one for each choice."""
        total = 0
        for number, flag in enumerate(flags):
            if flag:
                total = total | 1 << number
        return total

    def having(self, index):
        """The choices with this candidate."""
        return self.bits([index in choice for choice in self.listed])

    def united(self, parts):
        """The choices in at least one of the parts."""
        total = 0
        for part in parts:
            total = total | part
        return total

    def chosen(self, bits):
        """The ascending list of the choices for which the bits are 1."""
        return [choice for number, choice in enumerate(self.listed) if bits >> number & 1 == 1]

    def moving(self, row):
        """The choices for which the row has a move."""
        return self.united([self.makers[pair] for _, pair in self.leaps.moves_of(row)])

    def leading(self, row, end):
        """The choices for which one move leads from the row to the end."""
        return self.united([self.makers[move[1]] for move, after in self.leaps.steps_of(row) if after == end])

    def reaching(self, row, end):
        """The choices for which the end is reached from the row."""
        parts, goals = row.split("#"), end.split("#")
        if [len(part) for part in parts] != [len(goal) for goal in goals]:
            return 0
        # no move crosses a wall, so each part is played by itself
        total = self.every
        for part, goal in zip(parts, goals):
            total = total & self.reaching_by_play(part, goal)
        return total

    def reaching_by_play(self, row, end):
        """The same, by playing the row out down to the worth of the end."""
        floor = self.whole.worth(end)
        known = {end: self.every}
        onward = {}
        waiting = [row]
        while len(waiting) > 0:
            here = waiting[-1]
            if here in known:
                waiting.pop()
                continue
            if here not in onward:
                onward[here] = self.leaps.steps_of(here) if self.whole.worth(here) > floor else []
            missing = [after for _, after in onward[here] if after not in known]
            if len(missing) > 0:
                waiting.extend(missing)
            else:
                known[here] = self.united([self.makers[move[1]] & known[after] for move, after in onward[here]])
        return known[row]

    def windows_before(self):
        """For each window before a move, the choices that have such a move."""
        table = {}
        for pair, bits in zip(self.whole.pairs, self.makers):
            table[pair[0]] = table.get(pair[0], 0) | bits
        return table

    def first_rows(self, length):
        """Each integer of choices for which a row of at most this length has a move, with the least such row."""
        table = self.windows_before()
        signs = self.whole.sign_string()
        found = {0: ""}
        # how a row goes on depends on its last signs only
        level = [("", 0)]
        met = {("", 0): True}
        for _ in range(length):
            longer = [(row + sign, bits) for row, bits in level for sign in signs]
            level = []
            for row, before in longer:
                bits = self.united([before, *[table.get(row[-width:], 0) for width in WIDTHS]])
                tail = row[1 - max(WIDTHS):]
                if bits not in found:
                    found[bits] = row
                if (tail, bits) not in met:
                    met[tail, bits] = True
                    level.append((row, bits))
        return found
