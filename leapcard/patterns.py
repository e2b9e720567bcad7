"""Patterns: texts that describe rows."""

from leapcard.checks import check_sign_string
from leapcard.errors import InvalidPattern
from leapcard.machine import least_machine
from leapcard.signs import PEGS, SIGNS
from leapcard.subsets import single

MOST_SIGNS = 60
MOST_DEPTH = 10


def first_fault(text):
    """The index of the first character that cannot stand there, or None."""
    depth = 0
    has_atom = False
    for index, sign in enumerate(text):
        if index == MOST_SIGNS:
            return index
        if sign == "(":
            if depth == MOST_DEPTH:
                return index
            depth += 1
            has_atom = False
        elif sign == ")":
            if depth == 0:
                return index
            depth -= 1
            has_atom = True
        elif sign == "|":
            has_atom = False
        elif sign in "*+?":
            if not has_atom:
                return index
        elif sign in SIGNS or sign in "_@":
            has_atom = True
        else:
            return index
    return len(text) if depth > 0 else None


def check_pattern(text):
    """Raise InvalidPattern if the text is no pattern."""
    fault = first_fault(text)
    if fault is not None:
        raise InvalidPattern(fault)


def signs_for(atom, signs):
    """Those of the signs that fit an atom of one character."""
    if atom == "_":
        return signs
    if atom == "@":
        return "".join([sign for sign in signs if sign in PEGS])
    return atom if atom in signs else ""


class Part:
    """A part of a pattern: whether it fits the empty row, and the atoms that may come first and last."""

    def __init__(self, is_empty, heads, tails):
        self.is_empty = is_empty
        self.heads = heads
        self.tails = tails


class PatternReader:
    """Reads a pattern without faults; each atom of one character gets a number from 1 on."""

    def __init__(self, text):
        self.text = text
        self.at = 0
        self.atoms = [""]
        self.follows = [{}]

    def peek(self):
        """The character that is read next, or an empty string at the end."""
        return self.text[self.at:self.at + 1]

    def link(self, tails, heads):
        """Note that each of these heads may follow each of these tails."""
        for tail in tails:
            self.follows[tail].update({head: True for head in heads})

    def branches(self):
        """Read branches up to a closing parenthesis or the end."""
        whole = self.branch()
        while self.peek() == "|":
            self.at += 1
            part = self.branch()
            whole = Part(whole.is_empty or part.is_empty, whole.heads + part.heads, whole.tails + part.tails)
        return whole

    def branch(self):
        """Read the pieces of one branch."""
        whole = Part(True, [], [])
        while self.peek() not in ("", "|", ")"):
            part = self.piece()
            self.link(whole.tails, part.heads)
            heads = whole.heads + part.heads if whole.is_empty else whole.heads
            tails = whole.tails + part.tails if part.is_empty else part.tails
            whole = Part(whole.is_empty and part.is_empty, heads, tails)
        return whole

    def piece(self):
        """Read an atom and the marks behind it."""
        part = self.atom()
        marks = ""
        while self.peek() != "" and self.peek() in "*+?":
            marks = marks + self.peek()
            self.at += 1
        # in any order, the marks say only whether the atom may be left out and whether it may be repeated
        if "*" in marks or "+" in marks:
            self.link(part.tails, part.heads)
        may_lack = "*" in marks or "?" in marks
        return Part(part.is_empty or may_lack, part.heads, part.tails)

    def atom(self):
        """Read a character, or a pattern in parentheses."""
        sign = self.peek()
        self.at += 1
        if sign == "(":
            part = self.branches()
            self.at += 1
            return part
        number = len(self.atoms)
        self.atoms.append(sign)
        self.follows.append({})
        return Part(False, [number], [number])


def readings(text, signs):
    """The steps of reading a checked pattern, from state 0 on, and the states where a row of it may end."""
    reader = PatternReader(text)
    whole = reader.branches()
    reader.link([0], whole.heads)
    fitting = [signs_for(atom, signs) for atom in reader.atoms]
    steps = [[[to for to in follows if sign in fitting[to]] for sign in signs] for follows in reader.follows]
    return steps, [0, *whole.tails] if whole.is_empty else whole.tails


def pattern(text, signs):
    """The machine of the rows over the signs that the pattern describes."""
    check_sign_string(signs)
    check_pattern(text)
    steps, ends = readings(text, signs)
    arrows, flags = single([0], steps, ends, len(signs))
    return least_machine(signs, arrows, flags)


def fits_pattern(text, row):
    """Whether a row is one of the rows over all signs that the pattern describes; both are checked."""
    steps, ends = readings(text, SIGNS)
    states = [0]
    for sign in row:
        at = SIGNS.find(sign)
        states = sorted(set([to for state in states for to in steps[state][at]]))
    return any([state in ends for state in states])
