"""Comparing machines, and putting any number of them together."""

from leapcard.checks import check_alike
from leapcard.machine import IN_FIRST_ONLY, IN_ONE, Machine, least_row, read_both


def first_outside(first, second):
    """The least row that is in the first machine but not in the second, or None."""
    check_alike(first, second)
    arrows, flags = read_both(first, second, IN_FIRST_ONLY)
    return least_row(first.signs, arrows, flags)


def first_difference(first, second):
    """The least row that is in exactly one of the two machines, or None."""
    check_alike(first, second)
    arrows, flags = read_both(first, second, IN_ONE)
    return least_row(first.signs, arrows, flags)


def all_of(signs, *machines):
    """The machine of the rows in all of the machines."""
    both = Machine.everything(signs)
    for machine in machines:
        both = both & machine
    return both


def any_of(signs, *machines):
    """The machine of the rows in at least one of the machines."""
    either = Machine.nothing(signs)
    for machine in machines:
        either = either | machine
    return either
