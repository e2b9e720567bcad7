"""Cards: the worths of the kinds of pegs, and the jumps that may be made."""

from leapcard.errors import InvalidCard, InvalidJump
from leapcard.jumps import Jump
from leapcard.signs import KINDS, check_row, signs_of, unmarked

MOST_WORTH = 1000
DIGITS = "0123456789"


def worth_in(worths, row):
    """The sum of the worths of the pegs of a row that has been checked."""
    table = {kind: worth for kind, worth in zip(KINDS, worths)}
    return sum([table[sign] for sign in unmarked(row) if sign in table])


def are_worths(worths):
    """Whether this is a list of worths for 1 to 4 kinds."""
    return 1 <= len(worths) <= len(KINDS) and all([1 <= worth <= MOST_WORTH for worth in worths])


def fits_worths(jump, worths):
    """Whether a jump uses only kinds that have a worth, and lowers the worth of the row."""
    signs = signs_of(len(worths))
    if any([sign not in signs for sign in jump.before + jump.after]):
        return False
    return worth_in(worths, jump.after) < worth_in(worths, jump.before)


def pairs_of(jumps):
    """The window pairs of the jumps in their order, each at its first occurrence."""
    found = []
    for jump in jumps:
        for pair in jump.windows():
            if pair not in found:
                found.append(pair)
    return tuple(found)


def read_worths(text):
    """The worths in the first part of a card's text, or None."""
    words = text.split(" ")
    if len(words) > len(KINDS):
        return None
    worths = []
    for kind, word in zip(KINDS, words):
        digits = word[2:]
        if word[:2] != kind + "=" or not 1 <= len(digits) <= 4 or digits[0] == "0":
            return None
        if any([digit not in DIGITS for digit in digits]):
            return None
        worths.append(int(digits))
    return worths


def read_jumps(text):
    """The jumps in the last part of a card's text, or None."""
    blank, *words = text.split(" ")
    if blank != "":
        return None
    jumps = []
    for word in words:
        try:
            jumps.append(Jump.read(word))
        except InvalidJump:
            return None
    return jumps


class Card:
    """The worth of a peg of each kind, and the jumps that may be made."""

    MOST_JUMPS = 12

    def __init__(self, worths, jumps):
        if not are_worths(worths):
            raise InvalidCard("worths")
        texts = [str(jump) for jump in jumps]
        if len(texts) > Card.MOST_JUMPS or len(set(texts)) < len(texts):
            raise InvalidCard("jumps")
        if not all([fits_worths(jump, worths) for jump in jumps]):
            raise InvalidCard("jumps")
        self.worths = tuple(worths)
        self.jumps = tuple(jumps)
        self.pairs = pairs_of(jumps)

    def sign_string(self, *, walls=False, marks=False):
        """The sign string of the card's kinds."""
        return signs_of(len(self.worths), walls=walls, marks=marks)

    def worth(self, row):
        """The sum of the worths of the pegs of the row."""
        check_row(row, self.sign_string(walls=True, marks=True))
        return worth_in(self.worths, row)

    def mirrored(self):
        """The card with each jump mirrored."""
        return Card(self.worths, [jump.mirrored() for jump in self.jumps])

    def is_even(self):
        """Whether the card and its mirrored card have the same window pairs."""
        other = self.mirrored()
        return set(self.pairs) == set(other.pairs)

    def __add__(self, jump):
        return Card(self.worths, [*self.jumps, jump])

    def __sub__(self, jump):
        return Card(self.worths, [kept for kept in self.jumps if kept != jump])

    def __contains__(self, jump):
        return jump in self.jumps

    def __len__(self):
        return len(self.jumps)

    def __eq__(self, other):
        return isinstance(other, Card) and self.worths == other.worths and self.jumps == other.jumps

    def __str__(self):
        head = " ".join([f"{kind}={worth}" for kind, worth in zip(KINDS, self.worths)])
        tail = "".join([f" {jump!s}" for jump in self.jumps])
        return f"{head}:{tail}"

    @staticmethod
    def read(text):
        """The card with exactly this text."""
        head, colon, tail = text.partition(":")
        worths = read_worths(head)
        jumps = read_jumps(tail)
        if colon == "" or worths is None or jumps is None:
            raise InvalidCard("text")
        return Card(worths, jumps)

    @staticmethod
    def of(*jumps, worths=(1,)):
        """The card with these jumps."""
        return Card(worths, jumps)
