"""Arrows that lead to several states at once, made into arrows that lead to one state."""


def single(starts, steps, ends, width):
    """Arrows and flags of reading with all states at once.

    steps has a list for each state, with a list of target states for each of width signs.
    A row leads to a flag if it leads from one of the starts to one of the ends.
    """
    last = {state: True for state in ends}
    group = tuple(sorted(set(starts)))
    groups = [group]
    numbers = {group: 0}
    arrows = []
    while len(arrows) < len(groups):
        states = groups[len(arrows)]
        row = []
        for at in range(width):
            group = tuple(sorted(set([to for state in states for to in steps[state][at]])))
            if group not in numbers:
                numbers[group] = len(groups)
                groups.append(group)
            row.append(numbers[group])
        arrows.append(row)
    return arrows, [any([state in last for state in states]) for states in groups]
