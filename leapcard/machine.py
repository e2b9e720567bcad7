"""Finite machines that read rows."""

from leapcard.checks import check_alike, check_sign_string
from leapcard.errors import InvalidMachine, InvalidRow
from leapcard.graphs import has_circle, least_form, least_way, paired
from leapcard.signs import check_row

DIGITS = "0123456789"

# what an operator keeps: at 2 * (row in the first machine) + (row in the second one)
IN_BOTH = (False, False, False, True)
IN_ANY = (False, True, True, True)
IN_FIRST_ONLY = (False, False, True, False)
IN_ONE = (False, True, True, False)


def check_arrows(signs, arrows):
    """Raise InvalidMachine if the arrows are not those of a machine over the signs."""
    if len(arrows) == 0:
        raise InvalidMachine("arrows")
    for row in arrows:
        if len(row) != len(signs) or not all([0 <= to < len(arrows) for to in row]):
            raise InvalidMachine("arrows")


def state_behind(signs, arrows, row):
    """The state that a row leads to."""
    columns = {sign: at for at, sign in enumerate(signs)}
    state = 0
    for sign in row:
        if sign not in columns:
            raise InvalidRow(row)
        state = arrows[state][columns[sign]]
    return state


def final_flags(machine):
    """For each state of the machine, whether it is final."""
    finals = {state: True for state in machine.finals}
    return [state in finals for state in range(len(machine.arrows))]


def least_machine(signs, arrows, flags, start=0):
    """The least machine of the rows that lead from the start to a state with a flag."""
    rows, shades = least_form(arrows, flags, start)
    return Machine(signs, rows, [state for state, flag in enumerate(shades) if flag])


def least_row(signs, arrows, flags):
    """The least row that leads to a state with a flag, or None."""
    way = least_way(arrows, flags)
    if way is None:
        return None
    return "".join([signs[at] for at in way])


def read_both(first, second, kept):
    """Arrows that read with two machines, and flags where one of the tuples above says True."""
    arrows, pairs = paired(first.arrows, second.arrows)
    left, right = final_flags(first), final_flags(second)
    return arrows, [kept[2 * int(left[p]) + int(right[q])] for p, q in pairs]


def combined(first, second, kept):
    """The least machine of the rows that an operator keeps, as one of the tuples above says."""
    check_alike(first, second)
    arrows, flags = read_both(first, second, kept)
    return least_machine(first.signs, arrows, flags)


def read_number(text):
    """The number with this text, or None."""
    if text == "" or any([digit not in DIGITS for digit in text]) or (text[0] == "0" and text != "0"):
        return None
    return int(text)


def rows_as_tree(signs, rows):
    """Arrows and flags of a machine of these rows; state 1 is the one without hope."""
    columns = {sign: at for at, sign in enumerate(signs)}
    arrows = [[1 for _ in signs], [1 for _ in signs]]
    flags = [False, False]
    for row in rows:
        check_row(row, signs)
        state = 0
        for sign in row:
            if arrows[state][columns[sign]] == 1:
                arrows[state][columns[sign]] = len(arrows)
                arrows.append([1 for _ in signs])
                flags.append(False)
            state = arrows[state][columns[sign]]
        flags[state] = True
    return arrows, flags


class Machine:
    """A finite machine: state 0 is the start, and a row is in it if it leads to a final state."""

    def __init__(self, signs, arrows, finals):
        check_sign_string(signs)
        check_arrows(signs, arrows)
        if len(set(finals)) < len(finals) or not all([0 <= state < len(arrows) for state in finals]):
            raise InvalidMachine("finals")
        self.signs = signs
        self.arrows = tuple([tuple(row) for row in arrows])
        self.finals = tuple(sorted(finals))

    @property
    def size(self):
        """The number of states."""
        return len(self.arrows)

    def state(self, row):
        """The state that the row leads to."""
        return state_behind(self.signs, self.arrows, row)

    def least(self):
        """The least machine with the same rows."""
        return least_machine(self.signs, self.arrows, final_flags(self))

    def first(self):
        """The least row in the machine, or None."""
        return least_row(self.signs, self.arrows, final_flags(self))

    def walk(self, length):
        """The rows of this length in the machine, in ascending order, one by one."""
        hopes = [final_flags(self)]
        for _ in range(length):
            hopes.append([any([hopes[-1][end] for end in ends]) for ends in self.arrows])
        waiting = [(0, "")] if hopes[length][0] else []
        while len(waiting) > 0:
            state, row = waiting.pop()
            if len(row) == length:
                yield row
            else:
                hope = hopes[length - len(row) - 1]
                steps = list(zip(self.arrows[state], self.signs))
                for to, sign in reversed(steps):
                    if hope[to]:
                        waiting.append((to, row + sign))

    def how_many(self, length):
        """The number of rows of this length in the machine."""
        counts = [int(flag) for flag in final_flags(self)]
        for _ in range(length):
            counts = [sum([counts[to] for to in row]) for row in self.arrows]
        return counts[0]

    def is_endless(self):
        """Whether infinitely many rows are in the machine."""
        return has_circle(self.arrows, final_flags(self))

    def __contains__(self, row):
        return self.state(row) in self.finals

    def __eq__(self, other):
        return (isinstance(other, Machine) and self.signs == other.signs and self.arrows == other.arrows
                and self.finals == other.finals)

    def __and__(self, other):
        return combined(self, other, IN_BOTH)

    def __or__(self, other):
        return combined(self, other, IN_ANY)

    def __sub__(self, other):
        return combined(self, other, IN_FIRST_ONLY)

    def __xor__(self, other):
        return combined(self, other, IN_ONE)

    def __invert__(self):
        return least_machine(self.signs, self.arrows, [not flag for flag in final_flags(self)])

    def __str__(self):
        flags = final_flags(self)
        states = [",".join([str(to) for to in row]) for row in self.arrows]
        ends = [f"{state}!" if flag else state for state, flag in zip(states, flags)]
        return "|".join([self.signs, *ends])

    @staticmethod
    def read(text):
        """The machine with exactly this text."""
        signs, *parts = text.split("|")
        arrows = []
        finals = []
        for part in parts:
            if part.endswith("!"):
                finals.append(len(arrows))
            numbers = [read_number(word) for word in part.removesuffix("!").split(",")]
            if None in numbers:
                raise InvalidMachine("text")
            arrows.append(numbers)
        return Machine(signs, arrows, finals)

    @staticmethod
    def nothing(signs):
        """The machine without a row."""
        return Machine(signs, [[0 for _ in signs]], [])

    @staticmethod
    def everything(signs):
        """The machine of every row."""
        return Machine(signs, [[0 for _ in signs]], [0])

    @staticmethod
    def of_rows(signs, rows):
        """The machine of exactly these rows."""
        check_sign_string(signs)
        arrows, flags = rows_as_tree(signs, rows)
        return least_machine(signs, arrows, flags)
