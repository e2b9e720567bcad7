"""A look at short rows, which may show by itself that there is no machine so small."""

from leapcard.signs import shortlex

MOST_ROWS = 255
MOST_ENDINGS = 63


def first_rows(signs, count):
    """The first rows in shortlex order, so many of them."""
    rows = []
    for row in shortlex(signs, count):
        if len(rows) == count:
            break
        rows.append(row)
    return rows


def first_parting(left, right):
    """The first index at which two lists differ."""
    return [at for at, pair in enumerate(zip(left, right)) if pair[0] != pair[1]][0]


def parted_in_survey(signs, source, most):
    """most + 1 short rows that short endings part, with these endings as a table; None if they are too few."""
    endings = first_rows(signs, MOST_ENDINGS)
    found = {}
    for row in first_rows(signs, MOST_ROWS):
        seen = tuple([source.shown(row, ending) for ending in endings])
        if seen not in found:
            found[seen] = row
        if len(found) > most:
            table = list(found)
            return list(found.values()), [[endings[first_parting(table[i], table[j])] for i in range(j)]
                                          for j in range(most + 1)]
    return None
