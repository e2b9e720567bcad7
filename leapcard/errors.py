"""The errors of the package; each one holds what was wrong in its only attribute."""


class LeapError(ValueError):
    """The base class of all errors of the package."""


class InvalidRow(LeapError):
    """A row has a sign that is not allowed there."""

    def __init__(self, row):
        LeapError.__init__(self, f"a sign is not allowed in this row: {row!r}")
        self.row = row


class InvalidPlace(LeapError):
    """A row has no such place, or not for this purpose."""

    def __init__(self, place):
        LeapError.__init__(self, f"no such place: {place!r}")
        self.place = place


class InvalidJump(LeapError):
    """A text or a window describes no jump."""

    def __init__(self, text):
        LeapError.__init__(self, f"not a jump: {text!r}")
        self.text = text


class InvalidCard(LeapError):
    """One part of a card is wrong: worths, jumps or text."""

    def __init__(self, part):
        LeapError.__init__(self, f"wrong part of a card: {part!r}")
        self.part = part


class InvalidBoard(LeapError):
    """A board is neither row nor ring."""

    def __init__(self, board):
        LeapError.__init__(self, f"not a board: {board!r}")
        self.board = board


class NoJump(LeapError):
    """The move with this index cannot be made."""

    def __init__(self, index):
        LeapError.__init__(self, f"this move cannot be made: {index!r}")
        self.index = index


class TooMany(LeapError):
    """There are more than the limit allows."""

    def __init__(self, limit):
        LeapError.__init__(self, f"more than the limit: {limit!r}")
        self.limit = limit


class InvalidMachine(LeapError):
    """One part of a machine is wrong: signs, arrows, finals, sums or text."""

    def __init__(self, part):
        LeapError.__init__(self, f"wrong part of a machine: {part!r}")
        self.part = part


class Unlike(LeapError):
    """These signs do not go with the other signs of the call."""

    def __init__(self, signs):
        LeapError.__init__(self, f"signs that do not go together: {signs!r}")
        self.signs = signs


class InvalidPattern(LeapError):
    """A pattern has a character that cannot stand at this index."""

    def __init__(self, index):
        LeapError.__init__(self, f"wrong character of a pattern at index: {index!r}")
        self.index = index


class InvalidTarget(LeapError):
    """One part of a target is wrong: kind or count."""

    def __init__(self, part):
        LeapError.__init__(self, f"wrong part of a target: {part!r}")
        self.part = part


class NotExact(LeapError):
    """A machine is wrong, as this row shows."""

    def __init__(self, row):
        LeapError.__init__(self, f"the machine is not exact at this row: {row!r}")
        self.row = row


class NoMachine(LeapError):
    """There is no exact machine with at most this many states."""

    def __init__(self, most):
        LeapError.__init__(self, f"no exact machine with at most this many states: {most!r}")
        self.most = most


class InvalidMeasure(LeapError):
    """There is no such measure."""

    def __init__(self, measure):
        LeapError.__init__(self, f"not a measure: {measure!r}")
        self.measure = measure


class InvalidWeight(LeapError):
    """One part of a weight is wrong: period, modulus or table."""

    def __init__(self, part):
        LeapError.__init__(self, f"wrong part of a weight: {part!r}")
        self.part = part


class InvalidSight(LeapError):
    """A sight or a choice has the wrong form."""

    def __init__(self, sight):
        LeapError.__init__(self, f"not a sight: {sight!r}")
        self.sight = sight


class InvalidFact(LeapError):
    """A fact has the wrong form, or cannot be told or taken back."""

    def __init__(self, fact):
        LeapError.__init__(self, f"not such a fact: {fact!r}")
        self.fact = fact


class OverQuota(LeapError):
    """A quota does not allow this."""

    def __init__(self, number):
        LeapError.__init__(self, f"the quota does not allow this: {number!r}")
        self.number = number


class NothingLeft(LeapError):
    """There are fewer moves to take back or to make again."""

    def __init__(self, count):
        LeapError.__init__(self, f"there are fewer such moves: {count!r}")
        self.count = count


class InvalidOption(LeapError):
    """A desk has no such option."""

    def __init__(self, name):
        LeapError.__init__(self, f"not an option: {name!r}")
        self.name = name
