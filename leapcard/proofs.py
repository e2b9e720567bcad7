"""Everything that follows from told facts about a hidden card, with the rule and the sources of each fact."""


class Proof:
    """All known facts in an order in which each one stands behind what it follows from.

    The rules have the numbers of the document; told facts have the rule 0. leaps has the moves of
    each candidate by itself.
    """

    def __init__(self, leaps, lot, told):
        self.leaps = leaps
        self.lot = lot
        self.steps = {}
        self.queue = []
        # for each known row, the rows behind a move of each candidate, and the first fact with the row
        self.behind = {}
        self.origins = {}
        # for each row, the known rows with a move to it, and the known rows that lead to it and that it leads to
        self.before = {}
        self.into = {}
        self.out = {}
        for fact in told:
            self.note(fact, 0, [])
        taken = 0
        while taken < len(self.queue):
            self.follow(self.queue[taken])
            taken += 1

    def note(self, fact, rule, sources):
        """Note a fact, if it is new, with the rule and the sources that give it."""
        if fact not in self.steps:
            self.steps[fact] = (rule, tuple(sources))
            self.queue.append(fact)

    def knows(self, fact):
        """Whether the fact is known so far."""
        return fact in self.steps

    def follow(self, fact):
        """Apply the rules that may give more because of this fact."""
        word, *parts = fact
        if word == "on":
            for row in list(self.behind):
                self.use_on(parts[0], row)
        elif word == "off":
            self.follow_off(parts[0])
        else:
            for row in parts:
                if row not in self.behind:
                    self.meet(row, fact)
            if word == "leads":
                self.follow_leads(parts[0], parts[1])
            elif word == "stuck":
                self.use_stuck(parts[0])
            elif word == "down":
                self.follow_down(parts[0])
            else:
                self.follow_never(parts[0])

    def meet(self, row, fact):
        """Take a row among the known rows."""
        self.origins[row] = fact
        self.behind[row] = [sorted(set([after for _, after in leaps.steps_of(row)])) for leaps in self.leaps]
        for after in self.all_behind(row):
            self.before.setdefault(after, []).append(row)
        if row in self.lot:
            self.note(("down", row), 6, [])
        for index in range(len(self.leaps)):
            if self.knows(("on", index)):
                self.use_on(index, row)
        self.look_for_never(row)
        self.look_for_stuck(row)

    def all_behind(self, row):
        """The ascending list of the rows behind a move of some candidate."""
        return sorted(set([after for rows in self.behind[row] for after in rows]))

    def follow_off(self, index):
        """Apply the rules that ask for this candidate to be off."""
        for row in list(self.behind):
            if len(self.behind[row][index]) > 0:
                self.look_for_never(row)
                self.look_for_stuck(row)
                self.look_behind(row)
                for after in list(self.out.get(row, [])):
                    self.look_for_on(row, after)

    def follow_leads(self, row, after):
        """Apply the rules that begin with a move from row to after."""
        self.out.setdefault(row, []).append(after)
        self.into.setdefault(after, []).append(row)
        self.look_for_on(row, after)
        if self.knows(("down", after)):
            self.note(("down", row), 4, [("leads", row, after), ("down", after)])
        if self.knows(("never", row)):
            self.note(("never", after), 5, [("leads", row, after), ("never", row)])

    def follow_down(self, row):
        """Apply the rules that ask for a row that comes down to the lot."""
        for start in list(self.into.get(row, [])):
            self.note(("down", start), 4, [("leads", start, row), ("down", row)])
        self.look_behind(row)

    def follow_never(self, row):
        """Apply the rules that ask for a row that never comes down to the lot."""
        for after in list(self.out.get(row, [])):
            self.note(("never", after), 5, [("leads", row, after), ("never", row)])
        for start in list(self.before.get(row, [])):
            self.look_for_never(start)
            self.look_behind(start)

    def use_on(self, index, row):
        """Rule 3."""
        for after in self.behind[row][index]:
            self.note(("leads", row, after), 3, [("on", index)])

    def use_stuck(self, row):
        """Rule 2."""
        for index, rows in enumerate(self.behind[row]):
            if len(rows) > 0:
                self.note(("off", index), 2, [("stuck", row)])

    def look_for_on(self, row, after):
        """Rule 1."""
        makers = [index for index, rows in enumerate(self.behind[row]) if after in rows]
        for index in makers:
            others = [("off", other) for other in makers if other != index]
            if all([self.knows(fact) for fact in others]):
                self.note(("on", index), 1, [("leads", row, after), *others])

    def look_for_never(self, row):
        """Rule 7."""
        if row not in self.lot:
            sources = self.ruled_out(self.behind[row])
            if sources is not None:
                self.note(("never", row), 7, sources)

    def look_for_stuck(self, row):
        """Rule 8."""
        facts = [("off", index) for index, rows in enumerate(self.behind[row]) if len(rows) > 0]
        if all([self.knows(fact) for fact in facts]):
            self.note(("stuck", row), 8, facts)

    def look_behind(self, row):
        """Rule 9."""
        if not self.knows(("down", row)) or row in self.lot:
            return
        for after in self.all_behind(row):
            sources = self.ruled_out([[other for other in rows if other != after] for rows in self.behind[row]])
            if sources is not None:
                self.note(("leads", row, after), 9, [("down", row), *sources])
                self.note(("down", after), 9, [("down", row), *sources])

    def ruled_out(self, groups):
        """Known facts that put each candidate off, or say never of all rows of its group; None if they are too few."""
        sources = []
        for index, rows in enumerate(groups):
            facts = [("never", row) for row in rows]
            if len(rows) > 0 and self.knows(("off", index)):
                facts = [("off", index)]
            if not all([self.knows(fact) for fact in facts]):
                return None
            sources.extend([fact for fact in facts if fact not in sources])
        return sources

    def steps_to(self, fact):
        """(fact, rule, sources) for a known fact and all that it follows from, in the order of the proof."""
        needed = {fact: True}
        for here in reversed(self.queue):
            if here in needed:
                rule, sources = self.steps[here]
                needed.update({source: True for source in sources})
                if rule in (3, 6, 7, 8):
                    # these rules speak of a known row, so the first fact with this row belongs to them
                    needed[self.origins[here[1]]] = True
        return [(here, *self.steps[here]) for here in self.queue if here in needed]
