"""Targets: which rows a play should come down to."""

from leapcard.checks import check_sign_string
from leapcard.compare import all_of, any_of
from leapcard.errors import InvalidTarget
from leapcard.machine import Machine, least_machine
from leapcard.patterns import check_pattern, fits_pattern, pattern
from leapcard.signs import KINDS, MARKED, PEGS, SIGNS, check_row, unmarked

MOST_COUNT = 20


def check_kind(kind):
    """Raise InvalidTarget if this is neither a kind of peg nor empty."""
    if kind not in ("", *KINDS):
        raise InvalidTarget("kind")


def with_kind(text, kind):
    """The text, with the kind behind it if there is one."""
    return text if kind == "" else f"{text} {kind}"


def pegs_of(kind):
    """The signs of the pegs of a kind, marked ones included; of all pegs if the kind is empty."""
    return "".join([sign for sign in PEGS if kind in ("", unmarked(sign))])


def counted(row, chosen):
    """The number of places of the row with one of the chosen signs; the row is checked."""
    check_row(row)
    return len([sign for sign in row if sign in chosen])


def counting(signs, chosen, barred, least, most):
    """The machine of the rows with least to most chosen signs, and without any barred sign."""
    check_sign_string(signs)
    lost = most + 1
    arrows = []
    for number in range(lost):
        arrows.append([lost if sign in barred else number + int(sign in chosen) for sign in signs])
    arrows.append([lost for _ in signs])
    return least_machine(signs, arrows, [least <= number <= most for number in range(lost + 1)])


class Target:
    """A target that fits every row."""

    def holds(self, row):
        """Whether the row fits."""
        check_row(row)
        return True

    def lot_over(self, signs):
        """The machine of the rows over the signs that fit."""
        return Machine.everything(signs)

    def told(self):
        """The target as a text."""
        return "every row"


class OnePeg(Target):
    """Exactly one peg in all, of the given kind if there is one."""

    def __init__(self, kind=""):
        check_kind(kind)
        self.kind = kind

    def holds(self, row):
        """Whether the row fits."""
        return counted(row, PEGS) == 1 and counted(row, pegs_of(self.kind)) == 1

    def lot_over(self, signs):
        """The machine of the rows over the signs that fit."""
        chosen = pegs_of(self.kind)
        return counting(signs, chosen, [sign for sign in PEGS if sign not in chosen], 1, 1)

    def told(self):
        """The target as a text."""
        return with_kind("one peg", self.kind)


class AtMost(Target):
    """At most so many pegs, of the given kind if there is one."""

    def __init__(self, count, kind=""):
        if not 0 <= count <= MOST_COUNT:
            raise InvalidTarget("count")
        check_kind(kind)
        self.count = count
        self.kind = kind

    def holds(self, row):
        """Whether the row fits."""
        return counted(row, pegs_of(self.kind)) <= self.count

    def lot_over(self, signs):
        """The machine of the rows over the signs that fit."""
        return counting(signs, pegs_of(self.kind), "", 0, self.count)

    def told(self):
        """The target as a text."""
        return with_kind(f"at most {self.count} pegs", self.kind)


class PegAt(Target):
    """One marked place in all and one peg in all, at that place, of the given kind if there is one."""

    def __init__(self, kind=""):
        check_kind(kind)
        self.kind = kind

    def chosen(self):
        """The signs of which there must be one."""
        return "".join([sign for sign in pegs_of(self.kind) if sign in MARKED])

    def barred(self):
        """The signs of which there must be none."""
        chosen = self.chosen()
        return "".join([sign for sign in SIGNS if sign not in chosen and (sign in PEGS or sign in MARKED)])

    def holds(self, row):
        """Whether the row fits."""
        return counted(row, self.chosen()) == 1 and counted(row, self.barred()) == 0

    def lot_over(self, signs):
        """The machine of the rows over the signs that fit."""
        return counting(signs, self.chosen(), self.barred(), 1, 1)

    def told(self):
        """The target as a text."""
        subject = with_kind("peg", self.kind)
        return f"{subject} at the mark"


class Shape(Target):
    """The rows of a pattern, in which the two atoms for many signs mean all signs of rows."""

    def __init__(self, text):
        check_pattern(text)
        self.text = text

    def holds(self, row):
        """Whether the row fits."""
        check_row(row)
        return fits_pattern(self.text, row)

    def lot_over(self, signs):
        """The machine of the rows over the signs that fit."""
        # over fewer signs the atoms for many signs fit fewer signs, but the same rows
        return pattern(self.text, signs)

    def told(self):
        """The target as a text."""
        return f"shape {self.text}"


class Listed(Target):
    """The rows of a list."""

    def __init__(self, rows):
        for row in rows:
            check_row(row)
        self.rows = [row for _, row in sorted(set([(len(row), row) for row in rows]))]

    def holds(self, row):
        """Whether the row fits."""
        check_row(row)
        return row in self.rows

    def lot_over(self, signs):
        """The machine of the rows over the signs that fit."""
        return Machine.of_rows(signs, [row for row in self.rows if all([sign in signs for sign in row])])

    def told(self):
        """The target as a text."""
        rows = ",".join(self.rows)
        return f"rows {rows}"


class Both(Target):
    """All of the targets fit."""

    def __init__(self, *targets):
        self.targets = targets

    def holds(self, row):
        """Whether the row fits."""
        check_row(row)
        return all([target.holds(row) for target in self.targets])

    def lot_over(self, signs):
        """The machine of the rows over the signs that fit."""
        lots = [target.lot_over(signs) for target in self.targets]
        return all_of(signs, *lots)

    def told(self):
        """The target as a text."""
        texts = " and ".join([target.told() for target in self.targets])
        return f"({texts})" if len(self.targets) > 0 else "every row"


class Either(Target):
    """At least one of the targets fits."""

    def __init__(self, *targets):
        self.targets = targets

    def holds(self, row):
        """Whether the row fits."""
        check_row(row)
        return any([target.holds(row) for target in self.targets])

    def lot_over(self, signs):
        """The machine of the rows over the signs that fit."""
        lots = [target.lot_over(signs) for target in self.targets]
        return any_of(signs, *lots)

    def told(self):
        """The target as a text."""
        texts = " or ".join([target.told() for target in self.targets])
        return f"({texts})" if len(self.targets) > 0 else "no row"


class Not(Target):
    """The target does not fit."""

    def __init__(self, target):
        self.target = target

    def holds(self, row):
        """Whether the row fits."""
        return not self.target.holds(row)

    def lot_over(self, signs):
        """The machine of the rows over the signs that fit."""
        return ~self.target.lot_over(signs)

    def told(self):
        """The target as a text."""
        return f"not {self.target.told()}"
