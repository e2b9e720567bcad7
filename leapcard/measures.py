"""Measures: numbers of rows."""

from leapcard.checks import check_played
from leapcard.scores import Measure, Scores


def measured(card, row, measure, *, board="row"):
    """The measure of the row: "left", "worth" or "long"."""
    check_played(card, row, board)
    return Scores(card, Measure(card, measure), board).score(row)
