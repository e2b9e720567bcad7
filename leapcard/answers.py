"""Answers: a machine that was learned, or rows that show that there is no machine so small."""


def told_guesses(guesses):
    """The number of guesses as a text."""
    return f"{len(guesses)} guesses"


def told_found(machine, guesses):
    """The text of an answer with a machine."""
    return f"found {machine.size} states, {told_guesses(guesses)}"


def told_parted(rows, guesses):
    """The text of an answer with rows, each two of them parted."""
    return f"more than {len(rows) - 1} states, {told_guesses(guesses)}"


class Answer:
    """An answer, with the machines that were tried and a row about which each one is wrong."""

    verdict = ""

    def __init__(self, guesses):
        self.guesses = list(guesses)

    def told(self):
        """The answer as a text."""
        return told_guesses(self.guesses)


class Found(Answer):
    """There is an exact machine."""

    verdict = "found"

    def __init__(self, machine, guesses):
        Answer.__init__(self, guesses)
        self.machine = machine

    def told(self):
        """The answer as a text."""
        return told_found(self.machine, self.guesses)


class Parted(Answer):
    """There is no exact machine with fewer states than rows here; endings[j][i] parts rows i and j."""

    verdict = "parted"

    def __init__(self, rows, endings, guesses):
        Answer.__init__(self, guesses)
        self.rows = list(rows)
        self.endings = [list(row) for row in endings]

    def told(self):
        """The answer as a text."""
        return told_parted(self.rows, self.guesses)


class SumFound(Answer):
    """There is an exact machine that adds."""

    verdict = "sum found"

    def __init__(self, machine, guesses):
        Answer.__init__(self, guesses)
        self.machine = machine

    def told(self):
        """The answer as a text."""
        return told_found(self.machine, self.guesses)


class SumParted(Answer):
    """There is no exact machine that adds with fewer states than rows here."""

    verdict = "sum parted"

    def __init__(self, rows, endings, guesses):
        Answer.__init__(self, guesses)
        self.rows = list(rows)
        self.endings = [list(row) for row in endings]

    def told(self):
        """The answer as a text."""
        return told_parted(self.rows, self.guesses)
