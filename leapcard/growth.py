"""Values of rows by their length, and how fast the greatest one grows."""

from math import gcd

from leapcard.beside import is_whole
from leapcard.circles import greatest_arrows, greatest_mean
from leapcard.graphs import least_way, numbered
from leapcard.judging import is_row


def greatest_rests(arrows, sums, length):
    """For each length up to this one, the greatest sum that endings of that length add to each state."""
    rests = [[0 for _ in arrows]]
    for _ in range(length):
        behind = rests[-1]
        rests.append([max([carried + behind[to] for carried, to in zip(numbers, ends)])
                      for numbers, ends in zip(sums, arrows)])
    return rests


def extremes(machine, length):
    """The least and the greatest value of the rows of this length."""
    opposite = [[-carried for carried in numbers] for numbers in machine.sums]
    least = greatest_rests(machine.arrows, opposite, length)[length][0]
    return -least, greatest_rests(machine.arrows, machine.sums, length)[length][0]


def best_row(machine, length):
    """The least row of this length with the greatest value."""
    rests = greatest_rests(machine.arrows, machine.sums, length)
    state = 0
    row = ""
    for left in reversed(range(length)):
        best = [(sign, to) for sign, to, carried in zip(machine.signs, machine.arrows[state], machine.sums[state])
                if carried + rests[left][to] == rests[left + 1][state]]
        sign, state = best[0]
        row = row + sign
    return row


def circle_row(machine, circle):
    """The row that leads round a circle of states, over the greatest integers."""
    row = ""
    for state, to in zip(circle, [*circle[1:], circle[0]]):
        steps = [(-carried, sign) for sign, end, carried
                 in zip(machine.signs, machine.arrows[state], machine.sums[state]) if end == to]
        _, sign = min(steps)
        row = row + sign
    return row


def growth(machine):
    """(top, bottom, start, loop, heights): the rate at which the greatest value grows, and what shows it."""
    top, bottom, circle, heights = greatest_mean(greatest_arrows(machine.arrows, machine.sums))
    states = list(range(len(machine.arrows)))
    start = "".join([machine.signs[at] for at in least_way(machine.arrows, [state == circle[0] for state in states])])
    # no row leads to the other states, so their heights do not matter
    shown = [heights[state] - heights[0] if state in heights else 0 for state in states]
    return top, bottom, start, circle_row(machine, circle), shown


def walked(machine, state, row):
    """The state that a row leads to from a state, and the sum on this way."""
    total = 0
    for sign in row:
        at = machine.signs.index(sign)
        total += machine.sums[state][at]
        state = machine.arrows[state][at]
    return state, total


def is_at_rest(machine, top, bottom, heights):
    """Whether no arrow, from a state that some row leads to, asks for greater heights."""
    _, states = numbered(machine.arrows, list(range(len(machine.arrows))))
    return all([bottom * carried + heights[to] <= top + heights[state] for state in states
                for to, carried in zip(machine.arrows[state], machine.sums[state])])


def is_growth(machine, paper):
    """Whether this is a rate, with rows that reach it and heights that show that none is greater."""
    if not isinstance(paper, tuple) or len(paper) != 5:
        return False
    top, bottom, start, loop, heights = paper
    if not is_whole(top) or not is_whole(bottom) or bottom < 1 or gcd(top, bottom) != 1:
        return False
    if not is_row(start, machine.signs) or not is_row(loop, machine.signs) or loop == "":
        return False
    if not isinstance(heights, (list, tuple)) or len(heights) != len(machine.arrows):
        return False
    if not all([is_whole(height) for height in heights]) or heights[0] != 0:
        return False
    state = machine.state(start)
    end, total = walked(machine, state, loop)
    if end != state or bottom * total != top * len(loop):
        return False
    return is_at_rest(machine, top, bottom, heights)
