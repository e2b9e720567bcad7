"""Everything that can be reached from a row, found by playing the row out."""

from leapcard.checks import check_played
from leapcard.errors import TooMany
from leapcard.graphs import way_to
from leapcard.leaps import Leaps
from leapcard.signs import pegs, unmarked


def explored(card, row, board, limit):
    """Each reached row, in breadth-first order, with the step (row before, move) that found it.

    The play that these steps make is the first one of the shortest plays to the reached row,
    because rows are taken in the order of such plays, and moves in ascending order.
    """
    check_played(card, row, board)
    leaps = Leaps(card, board)
    steps = {row: None}
    queue = [row]
    taken = 0
    while taken < len(queue) <= limit:
        here = queue[taken]
        taken += 1
        for move, after in leaps.steps_of(here):
            if after not in steps:
                steps[after] = (here, move)
                queue.append(after)
    if len(queue) > limit:
        raise TooMany(limit)
    return steps


def first_play(steps, goals):
    """The first one of the shortest plays to one of the goals, or None."""
    wanted = {goal: True for goal in goals}
    for end in steps:
        if end in wanted:
            return way_to(steps, end)
    return None


def stuck_among(card, rows, board):
    """Those of the rows that have no move, in ascending order."""
    leaps = Leaps(card, board)
    return sorted([row for row in rows if len(leaps.moves_of(row)) == 0])


def by_worth(card, rows):
    """The rows with the least worth first, so that each stands behind all rows that it leads to."""
    return [row for _, row in sorted([(card.worth(row), row) for row in rows])]


def reached(card, row, *, board="row", limit=20000):
    """The ascending list of the reached rows."""
    return sorted(list(explored(card, row, board, limit)))


def ends(card, row, *, board="row", limit=20000):
    """The ascending list of the reached rows that are stuck."""
    return stuck_among(card, list(explored(card, row, board, limit)), board)


def find_play(card, row, goals, *, board="row", limit=20000):
    """The first one of the shortest plays that end in one of the goals, or None."""
    return first_play(explored(card, row, board, limit), goals)


def fewest_left(card, row, *, board="row", limit=20000):
    """The least number of pegs of a reached row."""
    return min([pegs(end) for end in explored(card, row, board, limit)])


def least_worth(card, row, *, board="row", limit=20000):
    """The least worth of a reached row."""
    return min([card.worth(end) for end in explored(card, row, board, limit)])


def shortest_full(card, row, *, board="row", limit=20000):
    """The first one of the shortest plays that end in a stuck row."""
    steps = explored(card, row, board, limit)
    return first_play(steps, stuck_among(card, list(steps), board))


def longest_full(card, row, *, board="row", limit=20000):
    """The first one of the longest plays that end in a stuck row."""
    leaps = Leaps(card, board)
    lengths = {}
    for here in by_worth(card, list(explored(card, row, board, limit))):
        lengths[here] = max([lengths[after] + 1 for _, after in leaps.steps_of(here)], default=0)
    play = []
    here = row
    while lengths[here] > 0:
        longest = [step for step in leaps.steps_of(here) if lengths[step[1]] == lengths[here] - 1]
        move, here = longest[0]
        play.append(move)
    return play


def count_full(card, row, *, board="row", limit=20000):
    """The number of plays that end in a stuck row."""
    leaps = Leaps(card, board)
    counts = {}
    for here in by_worth(card, list(explored(card, row, board, limit))):
        afters = [after for _, after in leaps.steps_of(here)]
        counts[here] = sum([counts[after] for after in afters]) if len(afters) > 0 else 1
    return counts[row]


def surely_free(card, row, *, board="row", limit=20000):
    """The ascending list of the places that are free in every reached row that is stuck."""
    texts = [unmarked(end) for end in ends(card, row, board=board, limit=limit)]
    return [place for place in range(len(row)) if all([text[place] == "." for text in texts])]
