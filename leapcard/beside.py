"""Reading a row while a machine reads, beside it, the row after one of its moves.

What is known after some signs is a configuration (stage, state, pair, split, done), as the
document describes it; state is the state of the machine behind the changed signs.
"""

from leapcard.graphs import alive
from leapcard.signs import MARKED, all_marked, unmarked

# the stages: no window has begun; in a window; behind it
NOT_BEGUN = 0
INSIDE = 1
COMPLETE = 2
# and on rings, where a window runs over the end of the row: in its last places, at the row's start;
# behind them; in its first places, at the row's end
AT_START = 3
BETWEEN = 4
AT_END = 5


class Beside:
    """The configurations for window pairs, and the arrows of a machine, on one board."""

    def __init__(self, pairs, signs, arrows, board):
        self.pairs = pairs
        self.arrows = arrows
        self.on_ring = board == "ring"
        self.plains = [unmarked(sign) for sign in signs]
        # where the machine's arrows have the sign y of a window, marked if the sign that is read is marked
        columns = {sign: at for at, sign in enumerate(signs)}
        self.changed = []
        for sign in signs:
            is_marked = sign in MARKED
            pegs_and_free = [plain for plain in self.plains if plain != "#"]
            self.changed.append({y: columns[all_marked(y) if is_marked else y] for y in pegs_and_free})

    def starts(self):
        """The ascending list of the configurations before anything is read."""
        found = [(NOT_BEGUN, 0, 0, 0, 0)]
        if self.on_ring:
            for pair, windows in enumerate(self.pairs):
                found.extend([(AT_START, 0, pair, split, 0) for split in range(1, len(windows[0]))])
        return found

    def onward(self, config, at):
        """The configurations behind sign number at, each with the number of the sign that the machine reads."""
        stage, state, pair, split, done = config
        if stage in (NOT_BEGUN, COMPLETE, BETWEEN):
            found = [((stage, self.arrows[state][at], pair, split, 0), at)]
            if stage == NOT_BEGUN:
                for begun in range(len(self.pairs)):
                    found.extend(self.in_window((INSIDE, state, begun, 0, 0), 0, at))
            if stage == BETWEEN:
                found.extend(self.in_window((AT_END, state, pair, split, 0), 0, at))
            return found
        if stage == AT_END and done == split:
            return []
        return self.in_window(config, split + done if stage == AT_START else done, at)

    def in_window(self, config, place, at):
        """The same, where the sign must be the one at this place of the window before."""
        stage, state, pair, split, done = config
        before, after = self.pairs[pair]
        if before[place] != self.plains[at]:
            return []
        column = self.changed[at][after[place]]
        to = self.arrows[state][column]
        if stage == INSIDE and done + 1 == len(before):
            return [((COMPLETE, to, 0, 0, 0), column)]
        if stage == AT_START and done + 1 == len(before) - split:
            return [((BETWEEN, to, pair, split, 0), column)]
        return [((stage, to, pair, split, done + 1), column)]

    def steps_of(self, config):
        """A list for each sign: the configurations that the sign leads to."""
        return [[to for to, _ in self.onward(config, at)] for at in range(len(self.plains))]

    def onward_from(self, configs):
        """The lists for each sign of each of these configurations."""
        onward = {}
        for config in configs:
            if config not in onward:
                onward[config] = self.steps_of(config)
        return onward

    def has(self, config):
        """Whether this is a configuration on this board."""
        if not isinstance(config, tuple) or len(config) != 5 or not all([is_whole(number) for number in config]):
            return False
        stage, state, pair, split, done = config
        if not is_state(state, self.arrows) or not 0 <= stage <= (AT_END if self.on_ring else COMPLETE):
            return False
        if stage in (NOT_BEGUN, COMPLETE):
            return pair == split == done == 0
        if not 0 <= pair < len(self.pairs):
            return False
        width = len(self.pairs[pair][0])
        if stage == INSIDE:
            return split == 0 < done < width
        if not 0 < split < width:
            return False
        if stage == AT_START:
            return 0 <= done < width - split
        return done == 0 if stage == BETWEEN else 0 < done <= split


def is_whole(number):
    """Whether this is an integer, which True and False are not."""
    return isinstance(number, int) and not isinstance(number, bool)


def is_state(state, arrows):
    """Whether there is such a state."""
    return is_whole(state) and 0 <= state < len(arrows)


def is_done(config):
    """Whether the row may end here: the window is complete."""
    stage, _, _, split, done = config
    return stage == COMPLETE or stage == AT_END and done == split


class Sweep:
    """All configurations that some row gives, with numbers in ascending order of the configurations."""

    def __init__(self, beside):
        waiting = beside.starts()
        found = {config: True for config in waiting}
        onward = {}
        while len(waiting) > 0:
            config = waiting.pop()
            onward[config] = beside.steps_of(config)
            for step in onward[config]:
                for to in step:
                    if to not in found:
                        found[to] = True
                        waiting.append(to)
        self.configs = sorted(list(found))
        numbers = {config: number for number, config in enumerate(self.configs)}
        self.start_numbers = [numbers[config] for config in beside.starts()]
        # for each number and each sign, the numbers that the sign leads to
        self.steps = [[[numbers[to] for to in step] for step in onward[config]] for config in self.configs]

    def good_flags(self, flags):
        """For each number, whether the configuration is good, if these states of the machine are final."""
        return [is_done(config) and flags[config[1]] for config in self.configs]

    def hopeful(self, flags):
        """The start numbers and the steps without the numbers from which nothing good can be read."""
        onward = [[to for step in steps for to in step] for steps in self.steps]
        useful = alive(onward, self.good_flags(flags))
        steps = [[[to for to in step if useful[to]] for step in row] for row in self.steps]
        return [number for number in self.start_numbers if useful[number]], steps
