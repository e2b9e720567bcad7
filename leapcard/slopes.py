"""Labels with slacks that rise and fall from sign to sign: how low they come, and which stay at 0."""

from leapcard.graphs import way_to


class Slopes:
    """All labels that some row gives, with numbers, and what they lead to.

    The source has starts(), onward(label, at) and may_end(label): the labels before anything is
    read, what sign number at leads to, and whether a row may end there. Where it may end, a slack
    must not be below 0. Every circle of labels on which slacks fall leads to such a place.
    """

    def __init__(self, source, width):
        starts = source.starts()
        self.labels = [label for label, _ in starts]
        self.start_slacks = {number: slack for number, (_, slack) in enumerate(starts)}
        self.sign_numbers = list(range(width))
        numbers = {label: number for number, label in enumerate(self.labels)}
        self.steps = []
        while len(self.steps) < len(self.labels):
            label = self.labels[len(self.steps)]
            row = []
            for at in self.sign_numbers:
                step = []
                for to, gain in source.onward(label, at):
                    if to not in numbers:
                        numbers[to] = len(self.labels)
                        self.labels.append(to)
                    step.append((numbers[to], gain))
                row.append(step)
            self.steps.append(row)
        self.ends = [source.may_end(label) for label in self.labels]


def carried(slacks, steps, sign_numbers):
    """The least slacks behind one more sign, which is one of these."""
    found = {}
    for number, slack in slacks.items():
        for at in sign_numbers:
            for to, gain in steps[number][at]:
                if to not in found or slack + gain < found[to]:
                    found[to] = slack + gain
    return found


class Descent:
    """The least slack of each number, from one length of rows to the next."""

    def __init__(self, starts, steps, sign_numbers):
        self.steps = steps
        self.sign_numbers = sign_numbers
        self.lowest = {number: starts[number] for number in starts}
        # the slacks that this length made less; only they can make others less at the next one
        self.fresh = {number: starts[number] for number in starts}
        self.length = 0

    def go_on(self):
        """Take the rows that are longer by one sign."""
        found = carried(self.fresh, self.steps, self.sign_numbers)
        self.fresh = {to: slack for to, slack in found.items() if to not in self.lowest or slack < self.lowest[to]}
        self.lowest.update(self.fresh)
        self.length += 1

    def is_below(self, ends):
        """Whether a row of this length has a slack below 0 where a row may end."""
        return any([ends[number] and slack < 0 for number, slack in self.fresh.items()])


def lowest_slacks(slopes):
    """The least slack of each number, or None if the slack of some row is below 0."""
    descent = Descent(slopes.start_slacks, slopes.steps, slopes.sign_numbers)
    while len(descent.fresh) > 0:
        # a slack that still falls after so many signs does so on a circle, and so without an end
        if descent.is_below(slopes.ends) or descent.length > len(slopes.labels):
            return None
        descent.go_on()
    return descent.lowest


def least_below(*parts):
    """The sign numbers of the least row whose slack is below 0 in one of the slopes, or None."""
    descents = [Descent(slopes.start_slacks, slopes.steps, slopes.sign_numbers) for slopes in parts]
    while any([len(descent.fresh) > 0 for descent in descents]):
        ways = [way_below(slopes, descent.length) for slopes, descent in zip(parts, descents)
                if descent.is_below(slopes.ends)]
        if len(ways) > 0:
            return min(ways)
        for descent in descents:
            descent.go_on()
    return None


def rests_by_length(slopes, length):
    """For each length of endings, the least slack that they add to each number; None where no row may end."""
    rests = [[0 if end else None for end in slopes.ends]]
    for _ in range(length):
        behind = rests[-1]
        rests.append([min([gain + behind[to] for step in row for to, gain in step if behind[to] is not None],
                          default=None) for row in slopes.steps])
    return rests


def way_below(slopes, length):
    """The sign numbers of the least row of this length whose slack is below 0; there is one."""
    rests = rests_by_length(slopes, length)
    slacks = slopes.start_slacks
    way = []
    while len(way) < length:
        rest = rests[length - len(way) - 1]
        for at in slopes.sign_numbers:
            behind = carried(slacks, slopes.steps, [at])
            if any([rest[to] is not None and slack + rest[to] < 0 for to, slack in behind.items()]):
                break
        way.append(at)
        slacks = behind
    return way


def least_rests(slopes):
    """The least slack that endings add to each number from which a row may end; no slack falls below 0."""
    origins = [[[]] for _ in slopes.labels]
    for number, row in enumerate(slopes.steps):
        for step in row:
            for to, gain in step:
                origins[to][0].append((number, gain))
    descent = Descent({number: 0 for number, end in enumerate(slopes.ends) if end}, origins, [0])
    while len(descent.fresh) > 0:
        descent.go_on()
    return descent.lowest


class Tied:
    """What can be read with a slack that an ending may still bring to 0, if no slack falls below 0."""

    def __init__(self, slopes):
        rests = least_rests(slopes)
        self.start_numbers = [number for number, slack in slopes.start_slacks.items()
                       if number in rests and slack + rests[number] == 0]
        self.steps = [[[to for to, gain in step if to in rests and gain + rests[to] == rests[number]] for step in row]
                      for number, row in enumerate(slopes.steps)]
        self.ends = [end and rests[number] == 0 for number, end in enumerate(slopes.ends)]


def least_untied(slopes, others):
    """The sign numbers of the least row whose slack is above 0 in both slopes, or None."""
    first, second = Tied(slopes), Tied(others)
    start = (tuple(first.start_numbers), tuple(second.start_numbers))
    steps = {start: None}
    queue = [start]
    taken = 0
    while taken < len(queue):
        groups = queue[taken]
        taken += 1
        if not any([part.ends[number] for part, group in zip((first, second), groups) for number in group]):
            return way_to(steps, groups)
        for at in slopes.sign_numbers:
            behind = tuple([tuple(sorted(set([to for number in group for to in part.steps[number][at]])))
                            for part, group in zip((first, second), groups)])
            if behind not in steps:
                steps[behind] = (groups, at)
                queue.append(behind)
    return None
