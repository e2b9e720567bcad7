"""The signs of rows, and rows as strings of signs."""

from leapcard.errors import InvalidPlace, InvalidRow

SIGNS = "#.:ABCDabcd"
KINDS = "abcd"
MARKED = ":ABCD"
PEGS = "ABCDabcd"


def signs_of(kinds, *, walls=False, marks=False):
    """The ascending sign string of the first kinds, with walls and with marked signs if wanted."""
    plain_signs = "." + KINDS[:kinds]
    chosen = plain_signs
    if marks:
        chosen = all_marked(plain_signs) + chosen
    if walls:
        chosen = "#" + chosen
    return "".join(sorted(chosen))


def is_sign_string(signs):
    """Whether the signs are a non-empty ascending string of different signs."""
    if len(signs) == 0 or any([sign not in SIGNS for sign in signs]):
        return False
    return all([sign < after for sign, after in zip(signs, signs[1:])])


def check_row(row, signs=SIGNS):
    """Raise InvalidRow if the row has another sign than these."""
    for sign in row:
        if sign not in signs:
            raise InvalidRow(row)


def unmarked(row):
    """The row without its marks; the row is not checked."""
    return row.replace(":", ".").lower()


def all_marked(row):
    """The row with every place marked; it has no walls and is not checked."""
    return row.replace(".", ":").upper()


def plain(row):
    """The row without its marks."""
    check_row(row)
    return unmarked(row)


def marked_places(row):
    """The ascending list of the marked places."""
    check_row(row)
    return [place for place, sign in enumerate(row) if sign in MARKED]


def marked(row, place):
    """The row with this place marked in addition."""
    check_row(row)
    if not 0 <= place < len(row) or row[place] == "#":
        raise InvalidPlace(place)
    return row[:place] + all_marked(row[place]) + row[place + 1:]


def pegs(row):
    """The number of pegs, marked ones included."""
    check_row(row)
    return len([sign for sign in row if sign in PEGS])


def mirror(row):
    """The row read from right to left."""
    check_row(row)
    return row[::-1]


def turned(row, by):
    """The row whose place i is place i + by of this row, counted round the end."""
    check_row(row)
    if row == "":
        return row
    start = by % len(row)
    return row[start:] + row[:start]


def least_turn(row):
    """The least of all turned rows."""
    check_row(row)
    return min([row[start:] + row[:start] for start in range(len(row))], default=row)


def each_row(signs, length):
    """All rows of this length over the signs, in ascending order, one by one."""
    picks = [0 for _ in range(length)]
    while True:
        yield "".join([signs[pick] for pick in picks])
        place = length - 1
        while place >= 0 and picks[place] == len(signs) - 1:
            picks[place] = 0
            place -= 1
        if place < 0:
            return
        picks[place] += 1


def shortlex(signs, most):
    """All rows of length 0 to most over the signs, in shortlex order, one by one."""
    for length in range(most + 1):
        yield from each_row(signs, length)
