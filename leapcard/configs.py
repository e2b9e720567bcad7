"""Configurations: what is known while a row is read and a machine reads the row after a move beside it."""

from leapcard.beside import Beside, is_done
from leapcard.checks import check_fits


def start_configs(card, machine, *, board="row"):
    """The ascending list of the configurations before anything is read."""
    check_fits(card, machine.signs, board)
    return Beside(card.pairs, machine.signs, machine.arrows, board).starts()


def next_configs(card, machine, configs, sign):
    """The ascending list of the configurations that these lead to when the sign is read."""
    # the stages tell by themselves where a window runs over the end of a ring
    check_fits(card, machine.signs, "row")
    beside = Beside(card.pairs, machine.signs, machine.arrows, "row")
    at = machine.signs.index(sign)
    return sorted(set([to for config in configs for to, _ in beside.onward(config, at)]))


def is_good(machine, config):
    """Whether the row that has been read has a move into the machine, as this configuration shows."""
    return is_done(config) and config[1] in machine.finals
