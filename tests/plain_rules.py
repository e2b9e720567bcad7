"""The nine rules of point 43, applied plainly, and a check of the steps that lead to a fact."""

from itertools import product

from leapcard.cards import Card
from tests.helpers import plain_next


def rows_in(fact):
    return [] if fact[0] in ("on", "off") else list(fact[1:])


class Rules:
    """The rules for some candidates and a lot."""

    def __init__(self, worths, candidates, lot):
        self.cards = [Card(worths, [jump]) for jump in candidates]
        self.lot = lot
        self.found = {}

    def behind(self, k, row):
        """R(k, row)"""
        if (k, row) not in self.found:
            self.found[k, row] = plain_next(self.cards[k], row, "row")
        return self.found[k, row]

    def numbers(self):
        return range(len(self.cards))

    def some_behind(self, row):
        return set().union(*[self.behind(k, row) for k in self.numbers()])

    def excluded(self, facts, k, rows):
        """Whether each of the rows is ruled out for candidate k."""
        return ("off", k) in facts or all(("never", row) in facts for row in rows)

    def follow_from_rows(self, facts, rows):
        """What the rules 3, 6, 7 and 8 give."""
        for v in rows:
            for k in self.numbers():
                if ("on", k) in facts:
                    yield from (("leads", v, w) for w in self.behind(k, v))
            if v in self.lot:
                yield "down", v
            elif all(self.excluded(facts, k, self.behind(k, v)) for k in self.numbers()):
                yield "never", v
            if all(("off", k) in facts for k in self.numbers() if self.behind(k, v)):
                yield "stuck", v

    def follow_from_facts(self, facts):
        """What the rules 1, 2, 4, 5 and 9 give."""
        for word, *parts in facts:
            if word == "leads":
                v, w = parts
                for k in self.numbers():
                    others = [j for j in self.numbers() if j != k and w in self.behind(j, v)]
                    if w in self.behind(k, v) and all(("off", j) in facts for j in others):
                        yield "on", k
                if ("down", w) in facts:
                    yield "down", v
                if ("never", v) in facts:
                    yield "never", w
            if word == "stuck":
                yield from (("off", k) for k in self.numbers() if self.behind(k, parts[0]))
            if word == "down" and parts[0] not in self.lot:
                for w in self.some_behind(parts[0]):
                    if all(self.excluded(facts, k, self.behind(k, parts[0]) - {w}) for k in self.numbers()):
                        yield "leads", parts[0], w
                        yield "down", w

    def closed(self, told):
        """All known facts, as an ascending list."""
        facts = set(told)
        while True:
            rows = {row for fact in facts for row in rows_in(fact)}
            new = set(self.follow_from_rows(facts, rows)) | set(self.follow_from_facts(facts))
            if new <= facts:
                return sorted(facts)
            facts |= new

    def may_rule_out(self, groups, sources):
        """Whether the sources are off or never facts, one choice for each candidate with a group that is not empty."""
        choices = [[[("off", k)], [("never", row) for row in rows]] for k, rows in enumerate(groups) if rows]
        return any(set(sources) == {fact for part in chosen for fact in part} for chosen in product(*choices))

    def is_rule(self, fact, rule, sources, rows):
        """Whether the rule gives the fact from exactly these sources; rows are those of earlier facts."""
        word, *parts = fact
        given = set(sources)
        if rule == 1 and word == "on":
            leads = [source for source in sources if source[0] == "leads"]
            if len(leads) != 1:
                return False
            _, v, w = leads[0]
            others = {("off", j) for j in self.numbers() if j != parts[0] and w in self.behind(j, v)}
            return w in self.behind(parts[0], v) and given == {leads[0]} | others
        if rule == 2 and word == "off":
            return len(sources) == 1 and sources[0][0] == "stuck" and bool(self.behind(parts[0], sources[0][1]))
        if rule == 3 and word == "leads":
            return (len(sources) == 1 and sources[0][0] == "on" and parts[1] in self.behind(sources[0][1], parts[0])
                    and parts[0] in rows)
        if rule == 4 and word == "down":
            return len(sources) == 2 and any(given == {("leads", parts[0], w), ("down", w)}
                                             for w in self.some_behind(parts[0]))
        if rule == 5 and word == "never":
            return len(sources) == 2 and any(given == {("leads", source[1], parts[0]), ("never", source[1])}
                                             for source in sources)
        if rule == 6 and word == "down":
            return sources == () and parts[0] in self.lot and parts[0] in rows
        if rule == 7 and word == "never":
            groups = [self.behind(k, parts[0]) for k in self.numbers()]
            return parts[0] not in self.lot and parts[0] in rows and self.may_rule_out(groups, sources)
        if rule == 8 and word == "stuck":
            wanted = {("off", k) for k in self.numbers() if self.behind(k, parts[0])}
            return parts[0] in rows and given == wanted
        if rule == 9 and word in ("leads", "down"):
            for _, v in [source for source in sources if source[0] == "down"]:
                w = parts[-1]
                groups = [self.behind(k, v) - {w} for k in self.numbers()]
                if (v not in self.lot and w in self.some_behind(v) and (word == "down" or parts[0] == v)
                        and self.may_rule_out(groups, given - {("down", v)})):
                    return True
        return False

    def check_steps(self, case, told, fact, steps):
        """Check every step by the rules, in a test case."""
        case.assertIsInstance(steps, list)
        case.assertEqual(steps[-1][0], fact)
        earlier, rows = set(), set()
        for step in steps:
            case.assertIsInstance(step, tuple)
            here, rule, sources = step
            case.assertIsInstance(sources, tuple)
            case.assertNotIn(here, earlier)
            if here in told:
                case.assertEqual((rule, sources), (0, ()))
            else:
                case.assertEqual(len(set(sources)), len(sources))
                case.assertLessEqual(set(sources), earlier)
                case.assertTrue(self.is_rule(here, rule, sources, rows), step)
            earlier.add(here)
            rows.update(rows_in(here))
