"""Circles of arrows that carry integers: the greatest mean of a circle, and heights that show it.

The arrows are those behind state 0: for each state p a dict of the states q that one sign leads to,
with the greatest integer of such a sign.
"""

from math import gcd

from leapcard.graphs import numbered


def greatest_arrows(arrows, sums):
    """For each state that some row leads to, the states behind one sign with their greatest integers."""
    _, states = numbered(arrows, list(range(len(arrows))))
    found = {}
    for state in states:
        table = {}
        for to, carried in zip(arrows[state], sums[state]):
            table[to] = max(carried, table.get(to, carried))
        found[state] = table
    return found


def circles_in(choices):
    """The circles of states where each state has at most one chosen state behind it."""
    met = {}
    circles = []
    for start in choices:
        state = start
        while state in choices and state not in met:
            met[state] = start
            state = choices[state]
        if met.get(state) == start:
            circle = [state]
            while choices[circle[-1]] != state:
                circle.append(choices[circle[-1]])
            circles.append(circle)
    return circles


def steepest(table, circles):
    """(top, bottom, circle) of a circle with the greatest mean top / bottom, in lowest terms."""
    best = None
    for circle in circles:
        total = sum([table[state][to] for state, to in zip(circle, [*circle[1:], circle[0]])])
        if best is None or total * best[1] > best[0] * len(circle):
            best = (total, len(circle), circle)
    total, length, circle = best
    factor = gcd(total, length)
    return total // factor, length // factor, circle


class Climb:
    """Heights of states that rise as long as an arrow asks for it, if each step costs the mean top / bottom."""

    def __init__(self, table, top, bottom):
        self.gains = {state: [] for state in table}
        for state, tos in table.items():
            for to, carried in tos.items():
                self.gains[to].append((state, bottom * carried - top))
        self.heights = {state: 0 for state in table}
        self.choices = {}

    def circles(self):
        """Circles with a greater mean; there are none if the heights have come to rest."""
        fresh = list(self.heights)
        while len(fresh) > 0:
            risen = {}
            for to in fresh:
                for state, gain in self.gains[to]:
                    if gain + self.heights[to] > self.heights[state]:
                        self.heights[state] = gain + self.heights[to]
                        self.choices[state] = to
                        risen[state] = True
            found = circles_in(self.choices)
            if len(found) > 0:
                return found
            fresh = list(risen)
        return []


def greatest_mean(table):
    """(top, bottom, circle, heights): the greatest mean of a circle, such a circle, and heights at rest."""
    # the first circle is a guess; each further one has a greater mean, so this comes to an end
    first = circles_in({state: max([(carried, to) for to, carried in tos.items()])[1] for state, tos in table.items()})
    top, bottom, circle = steepest(table, first)
    while True:
        climb = Climb(table, top, bottom)
        found = climb.circles()
        if len(found) == 0:
            return top, bottom, circle, climb.heights
        top, bottom, circle = steepest(table, found)
