"""Sorting rows into classes by what endings show of them, which is the way to the least machine."""


class Sorter:
    """Rows of which each two are known to be different, and endings that part them.

    source.shown(row, ending) is what an ending shows of a row; rows are different if some ending
    shows different things of them. The endings stand in a tree: an inner node has an ending and a
    child for each thing that it has shown. A child that is not negative is the number of a class,
    a child below 0 is the inner node with the number -1 - child.
    """

    def __init__(self, signs, source):
        self.signs = signs
        self.source = source
        self.rows = [""]
        self.arrows = []
        self.endings = []
        self.children = []
        self.root = 0

    def class_of(self, row):
        """The number of the row's class; a new one if the row is different from all others."""
        child = self.root
        while child < 0:
            children = self.children[-1 - child]
            shown = self.source.shown(row, self.endings[-1 - child])
            if shown not in children:
                children[shown] = len(self.rows)
                self.rows.append(row)
            child = children[shown]
        return child

    def is_complete(self):
        """Whether it is known where the signs lead from each class."""
        return len(self.arrows) == len(self.rows)

    def complete(self, most, longest=None):
        """Find where the signs lead from each class, unless there are more than most classes, or a row is too long."""
        while not self.is_complete() and len(self.rows) <= most:
            row = self.rows[len(self.arrows)]
            if longest is not None and len(row) > longest:
                return
            self.arrows.append([self.class_of(row + sign) for sign in self.signs])

    def learn_from(self, row):
        """Part two rows of one class, as a row shows that the arrows read wrongly."""
        columns = {sign: at for at, sign in enumerate(self.signs)}
        states = [0]
        for sign in row:
            states.append(self.arrows[states[-1]][columns[sign]])
        # the shortest endings come first, because they are looked at most often later on
        for at in reversed(range(len(row))):
            moved = self.rows[states[at]] + row[at]
            held = states[at + 1]
            ending = row[at + 1:]
            if self.source.shown(moved, ending) != self.source.shown(self.rows[held], ending):
                self.split(held, moved, ending)
                return

    def split(self, held, moved, ending):
        """Make a class for the row moved, which this ending parts from the class held."""
        inner = -1 - len(self.endings)
        self.root = inner if self.root == held else self.root
        self.children = [{shown: inner if child == held else child for shown, child in children.items()}
                         for children in self.children]
        self.endings.append(ending)
        seen, other = self.source.shown(self.rows[held], ending), self.source.shown(moved, ending)
        self.children.append({seen: held, other: len(self.rows)})
        self.rows.append(moved)
        self.arrows = [[self.class_of(self.rows[state] + sign) if to == held else to
                        for sign, to in zip(self.signs, row)] for state, row in enumerate(self.arrows)]

    def ending_between(self, row, other):
        """An ending that parts two rows of different classes."""
        child = self.root
        while True:
            ending = self.endings[-1 - child]
            shown = self.source.shown(row, ending)
            if shown != self.source.shown(other, ending):
                return ending
            child = self.children[-1 - child][shown]

    def parted(self, count):
        """The first rows, so many of them, and for each one the endings that part it from those before."""
        rows = self.rows[:count]
        return rows, [[self.ending_between(rows[i], rows[j]) for i in range(j)] for j in range(count)]

