"""Jumps: what a window of places must hold before a jump, and what it holds after it."""

from leapcard.errors import InvalidJump
from leapcard.signs import KINDS, mirror

WAY_SIGNS = {"right": ">", "left": "<", "both": "="}
SIGN_WAYS = {">": "right", "<": "left", "=": "both"}
OTHER_WAYS = {"right": "left", "left": "right", "both": "both"}


def is_jump(before, after, ways):
    """Whether these are the windows of a jump to the right, and the ways it may go."""
    if ways not in WAY_SIGNS or len(before) not in (3, 4) or len(before) != len(after):
        return False
    if before[-1] != "." or after[0] != ".":
        return False
    if any([sign not in KINDS for sign in before[:-1]]):
        return False
    return all([sign == "." or sign in KINDS for sign in after])


class Jump:
    """A jump, written as it goes to the right."""

    def __init__(self, before, after, ways="right"):
        if not is_jump(before, after, ways):
            raise InvalidJump(before)
        self.before = before
        self.after = after
        self.ways = ways

    def windows(self):
        """The pairs of windows before and after: to the right first, then to the left."""
        pairs = []
        if self.ways != "left":
            pairs.append((self.before, self.after))
        if self.ways != "right":
            pairs.append((mirror(self.before), mirror(self.after)))
        return pairs

    def mirrored(self):
        """The jump with right and left exchanged."""
        return Jump(self.before, self.after, OTHER_WAYS[self.ways])

    def __eq__(self, other):
        return (isinstance(other, Jump) and self.before == other.before and self.after == other.after
                and self.ways == other.ways)

    def __str__(self):
        return f"{self.before}{WAY_SIGNS[self.ways]}{self.after}"

    @staticmethod
    def read(text):
        """The jump with this text."""
        middle = len(text) // 2
        before, way, after = text[:middle], text[middle:middle + 1], text[middle + 1:]
        ways = SIGN_WAYS.get(way, "")
        if not is_jump(before, after, ways):
            raise InvalidJump(text)
        return Jump(before, after, ways)
