"""A desk: a play that is led from a row on, move by move, with a guide."""

from leapcard.errors import InvalidOption, NoJump, NothingLeft, OverQuota
from leapcard.leaps import Leaps
from leapcard.signs import check_row

MOST_QUOTA = 1000


class Desk:
    """A row, the moves that were made from it, and those that were taken back and can be made again."""

    def __init__(self, guide, row, *, quota=60):
        check_row(row, guide.machine.signs)
        if not 0 <= quota <= MOST_QUOTA:
            raise OverQuota(quota)
        self.guide = guide
        self.leaps = Leaps(guide.card, guide.board)
        self.rows_met = [row]
        self.moves_made = []
        self.moves_undone = []
        self.allowed = quota

    @property
    def present(self):
        """The present row."""
        return self.rows_met[-1]

    @property
    def played(self):
        """A new list of the moves made."""
        return list(self.moves_made)

    @property
    def quota(self):
        """The largest allowed number of moves made."""
        return self.allowed

    @quota.setter
    def quota(self, number):
        """Set the quota, which must allow the moves made."""
        if not len(self.moves_made) <= number <= MOST_QUOTA:
            raise OverQuota(number)
        self.allowed = number

    @property
    def moves_left(self):
        """How many more moves the quota allows."""
        return self.allowed - len(self.moves_made)

    def change(self, name, number):
        """Set the quota by its name."""
        if name != "quota":
            raise InvalidOption(name)
        self.quota = number

    def moves(self):
        """The moves of the present row."""
        return self.leaps.moves_of(self.present)

    def keeping(self):
        """The moves of the present row that keep hope."""
        return self.guide.keeping(self.present)

    def make(self, moves):
        """Make moves, or none if one of them has a fault."""
        rows = [self.present]
        for index, move in enumerate(moves):
            if index >= self.moves_left:
                raise OverQuota(self.allowed)
            if move not in self.leaps.moves_of(rows[-1]):
                raise NoJump(index)
            rows.append(self.leaps.made(rows[-1], move))
        self.rows_met.extend(rows[1:])
        self.moves_made.extend(list(moves))

    def do(self, *moves):
        """Make moves, one behind the other."""
        self.make(moves)
        if len(moves) > 0:
            self.moves_undone = []

    def back(self, count=1):
        """Take back so many moves."""
        if count > len(self.moves_made):
            raise NothingLeft(count)
        kept = len(self.moves_made) - count
        self.moves_undone.extend(self.moves_made[kept:][::-1])
        self.moves_made = self.moves_made[:kept]
        self.rows_met = self.rows_met[:kept + 1]

    def again(self, count=1):
        """Make so many moves again that were taken back, the last one first."""
        if count > len(self.moves_undone):
            raise NothingLeft(count)
        kept = len(self.moves_undone) - count
        self.make(self.moves_undone[kept:][::-1])
        self.moves_undone = self.moves_undone[:kept]

    def has_hope(self):
        """Whether the present row has hope."""
        return self.guide.has_hope(self.present)

    def lost_at(self):
        """The index of the first move made that lost hope, or None."""
        return self.guide.blame(self.rows_met[0], self.moves_made)

    def finish(self):
        """Make the moves of the guide's play to the lot, and return their list; None without hope."""
        play = self.guide.to_lot(self.present)
        if play is not None:
            self.do(*play)
        return play

    def __len__(self):
        return len(self.moves_made)

    def twin(self):
        """An independent desk in the same state."""
        other = Desk(self.guide, self.rows_met[0], quota=self.allowed)
        other.rows_met = list(self.rows_met)
        other.moves_made = list(self.moves_made)
        other.moves_undone = list(self.moves_undone)
        return other

    def lines(self):
        """A text for the first row and for each move made."""
        blank = ""
        steps = [(blank, blank), *self.moves_made]
        texts = []
        for number, row in enumerate(self.rows_met):
            place, pair = steps[number]
            hope = "+" if self.guide.has_hope(row) else "-"
            texts.append(f"{number:>3} {place:>4} {pair:>4} {row} {hope}")
        return texts
