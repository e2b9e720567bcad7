"""Guides: questions about plays, answered by an exact machine without playing rows out."""

from leapcard.answers import Parted
from leapcard.closed import check_lot, least_break
from leapcard.errors import NoJump, NoMachine, NotExact
from leapcard.leaps import Leaps
from leapcard.learn import learn
from leapcard.machine import final_flags
from leapcard.plays import rows_played
from leapcard.signs import check_row


def fewest_changes(machine, row):
    """For each place and each state, the fewest changes that make the row from there on end in a final state.

    More changes than places mean that there is no way.
    """
    never = len(row) + 1
    table = [[0 if flag else never for flag in final_flags(machine)]]
    for sign in reversed(list(row)):
        costs = [int(other != sign) for other in machine.signs]
        behind = table[-1]
        table.append([min([never, *[cost + behind[to] for cost, to in zip(costs, ends)]]) for ends in machine.arrows])
    return table[::-1]


class Guide:
    """An exact machine for a card, a lot and a board."""

    def __init__(self, card, machine, lot, *, board="row"):
        check_lot(card, machine, lot, board)
        row = least_break(card, machine, lot, board)
        if row is not None:
            raise NotExact(row)
        self.card = card
        self.machine = machine
        self.lot = lot
        self.board = board

    @staticmethod
    def of(card, lot, *, board="row", most=12):
        """The guide with the machine that is learned."""
        answer = learn(card, lot, board=board, most=most)
        if isinstance(answer, Parted):
            raise NoMachine(most)
        return Guide(card, answer.machine, lot, board=board)

    def has_hope(self, row):
        """Whether the row comes down to the lot."""
        return row in self.machine

    def keeping(self, row):
        """The ascending list of the moves that lead to a row with hope."""
        check_row(row, self.machine.signs)
        return [move for move, after in Leaps(self.card, self.board).steps_of(row) if after in self.machine]

    def to_lot(self, row):
        """A play that comes down to the lot, of the least moves that keep hope; None without hope."""
        if row not in self.machine:
            return None
        leaps = Leaps(self.card, self.board)
        play = []
        here = row
        while here not in self.lot:
            move = self.keeping(here)[0]
            play.append(move)
            here = leaps.made(here, move)
        return play

    def watched(self, row, play):
        """(index, row, hope) for the first row and after each move, one by one."""
        yield 0, row, row in self.machine
        leaps = Leaps(self.card, self.board)
        here = row
        for index, move in enumerate(play):
            if move not in leaps.moves_of(here):
                raise NoJump(index)
            here = leaps.made(here, move)
            yield index + 1, here, here in self.machine

    def blame(self, row, play):
        """The index of the first move that leads from a row with hope to a row without hope, or None."""
        check_row(row, self.machine.signs)
        rows = rows_played(self.card, row, play, self.board)
        if len(rows) <= len(play):
            raise NoJump(len(rows) - 1)
        hopes = [here in self.machine for here in rows]
        losses = [index for index, hope in enumerate(hopes[:-1]) if hope and not hopes[index + 1]]
        return losses[0] if len(losses) > 0 else None

    def nearest(self, row):
        """The least row with hope among those of this length that differ at the fewest places, or None."""
        check_row(row, self.machine.signs)
        table = fewest_changes(self.machine, row)
        state = 0
        found = ""
        if table[0][state] > len(row):
            return None
        for place, sign in enumerate(row):
            best = [(other, to) for other, to in zip(self.machine.signs, self.machine.arrows[state])
                    if int(other != sign) + table[place + 1][to] == table[place][state]]
            other, state = best[0]
            found = found + other
        return found
