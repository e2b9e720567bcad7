"""Arrows without signs: a list of target states for each state, one target for each sign.

State 0 is the start. A colour tells states apart from the outset: whether a state is final, for
example. These functions also run behind operators, so they change only lists of their own.
"""


def numbered(arrows, colours, start=0):
    """The arrows and colours of the states that the start leads to, in breadth-first order."""
    order = [start]
    numbers = {start: 0}
    taken = 0
    while taken < len(order):
        for to in arrows[order[taken]]:
            if to not in numbers:
                numbers[to] = len(order)
                order.append(to)
        taken += 1
    rows = [[numbers[end] for end in arrows[state]] for state in order]
    return rows, [colours[state] for state in order]


def sources(arrows, at):
    """All states, sorted by the state that sign number at leads them to, and where each part begins."""
    counts = [0 for _ in arrows]
    for row in arrows:
        counts[row[at]] = counts[row[at]] + 1
    begins = [0]
    for count in counts:
        begins.append(begins[-1] + count)
    sorted_states = sorted([(row[at], state) for state, row in enumerate(arrows)])
    return begins, [state for _, state in sorted_states]


def without_gaps(colours):
    """Equal numbers, from 0 on, for equal colours."""
    numbers = {colour: number for number, colour in enumerate(sorted(set(colours)))}
    return [numbers[colour] for colour in colours]


def classes_of(arrows, colours):
    """A class number for each state; equal for two states if every row leads both to equal colours."""
    # Hopcroft's method. The states stand in a line, class by class; class k has the spots lows[k]
    # to highs[k] - 1. A class is cut in two if a sign leads only some of its states into one class.
    classes = list(without_gaps(colours))
    line = [state for _, state in sorted([(number, state) for state, number in enumerate(classes)])]
    spots = [spot for _, spot in sorted([(state, spot) for spot, state in enumerate(line)])]
    lows = [spot for spot, state in enumerate(line) if spot == 0 or classes[state] != classes[line[spot - 1]]]
    highs = [*lows[1:], len(line)]
    origins = [sources(arrows, at) for at in range(len(arrows[0]))]
    waiting = [(number, at) for number in range(len(lows)) for at in range(len(origins))]
    while len(waiting) > 0:
        cutter, at = waiting.pop()
        begins, states = origins[at]
        hits = [states[k] for to in line[lows[cutter]:highs[cutter]] for k in range(begins[to], begins[to + 1])]
        hit_counts = {}
        for state in hits:
            number = classes[state]
            hit_counts[number] = hit_counts.get(number, 0) + 1
            spot = lows[number] + hit_counts[number] - 1
            other = line[spot]
            line[spots[state]], spots[other] = other, spots[state]
            line[spot], spots[state] = state, spot
        for number, count in hit_counts.items():
            low, middle, high = lows[number], lows[number] + count, highs[number]
            if middle == high:
                continue
            # the smaller part gets the new number, so no state changes its class often
            if middle - low <= high - middle:
                lows[number], high = middle, middle
            else:
                highs[number], low = middle, middle
            for state in line[low:high]:
                classes[state] = len(lows)
            for sign in range(len(origins)):
                waiting.append((len(lows), sign))
            lows.append(low)
            highs.append(high)
    return classes


def least_form(arrows, colours, start):
    """The arrows and colours with the fewest states, in breadth-first order from the start."""
    rows, shades = numbered(arrows, colours, start)
    classes = classes_of(rows, shades)
    chosen = {}
    for state, number in enumerate(classes):
        if number not in chosen:
            chosen[number] = state
    states = [chosen[number] for number in range(len(chosen))]
    merged = [[classes[to] for to in rows[state]] for state in states]
    return numbered(merged, [shades[state] for state in states], classes[0])


def paired(first, second):
    """The arrows of reading with two machines at once, and the pair of states behind each state."""
    pairs = [(0, 0)]
    numbers = {(0, 0): 0}
    arrows = []
    while len(arrows) < len(pairs):
        left, right = pairs[len(arrows)]
        row = []
        for pair in zip(first[left], second[right]):
            if pair not in numbers:
                numbers[pair] = len(pairs)
                pairs.append(pair)
            row.append(numbers[pair])
        arrows.append(row)
    return arrows, pairs


def least_way(arrows, flags):
    """The sign numbers of the least row that leads to a state with a flag, or None."""
    ways = {0: None}
    queue = [0]
    taken = 0
    while taken < len(queue):
        state = queue[taken]
        taken += 1
        if flags[state]:
            return way_to(ways, state)
        for at, to in enumerate(arrows[state]):
            if to not in ways:
                ways[to] = (state, at)
                queue.append(to)
    return None


def way_to(steps, end):
    """The labels on the way to the end, if each thing met has the step (before, label) that found it."""
    labels = []
    step = steps[end]
    while step is not None:
        before, label = step
        labels.append(label)
        step = steps[before]
    return labels[::-1]


def alive(arrows, flags):
    """For each state, whether some row leads from it to a state with a flag."""
    origins = [[] for _ in arrows]
    for state, row in enumerate(arrows):
        for to in row:
            origins[to].append(state)
    queue = [state for state, flag in enumerate(flags) if flag]
    found = [bool(flag) for flag in flags]
    while len(queue) > 0:
        to = queue.pop()
        for state in origins[to]:
            if not found[state]:
                found[state] = True
                queue.append(state)
    return found


def has_circle(arrows, flags):
    """Whether some way from state 0 to a state with a flag meets a state twice."""
    rows, shades = numbered(arrows, flags)
    useful = alive(rows, shades)
    onward = [[end for end in ends if useful[end]] if useful[state] else [] for state, ends in enumerate(rows)]
    arriving = [0 for _ in onward]
    for row in onward:
        for to in row:
            arriving[to] += 1
    # states without an arriving arrow are taken away one by one; what is left lies on or behind a circle
    queue = [state for state, count in enumerate(arriving) if count == 0]
    taken = 0
    while taken < len(queue):
        for to in onward[queue[taken]]:
            arriving[to] -= 1
            if arriving[to] == 0:
                queue.append(to)
        taken += 1
    return len(queue) < len(onward)
