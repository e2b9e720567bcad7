"""Which rows a machine is wrong about, and the rows, endings and guesses of answers, which are not trusted."""


def is_row(row, signs):
    """Whether this is a row over the signs."""
    return isinstance(row, str) and all([sign in signs for sign in row])


def are_parted(rows, endings, signs, most, source):
    """Whether there are most + 1 rows and an ending for each two of them, which parts them."""
    if len(rows) != most + 1 or not all([is_row(row, signs) for row in rows]) or len(set(rows)) < len(rows):
        return False
    if [len(row) for row in endings] != list(range(most + 1)):
        return False
    if not all([is_row(ending, signs) for row in endings for ending in row]):
        return False
    return all([source.shown(rows[first], ending) != source.shown(rows[second], ending)
                for second, row in enumerate(endings) for first, ending in enumerate(row)])


def are_guesses(guesses, signs, most, source):
    """Whether each guess is a machine that is wrong about its row, and the sizes rise up to most at most."""
    reached = 0
    for guess in guesses:
        if not isinstance(guess, tuple) or len(guess) != 2:
            return False
        machine, row = guess
        if machine.signs != signs or not reached < machine.size <= most:
            return False
        if not is_row(row, signs) or not source.is_wrong(machine, row):
            return False
        reached = machine.size
    return True


def wrong_near(machine, row, source):
    """The first one among the row and the rows that one move leads to about which the machine is wrong.

    If the row is a break, there is one: were the machine right about the rows behind the move, it
    would have to be right about the row.
    """
    rows = [row, *[after for _, after in source.leaps.steps_of(row)]]
    return [near for near in rows if source.is_wrong(machine, near)][0]
