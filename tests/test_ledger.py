from random import Random

from leapcard.cards import Card
from leapcard.errors import InvalidCard, InvalidFact, Unlike
from leapcard.jumps import Jump
from leapcard.ledger import Ledger
from leapcard.machine import Machine
from leapcard.patterns import pattern
from leapcard.targets import AtMost, OnePeg, PegAt
from tests.helpers import LeapTest, plain_hope, plain_moves, plain_next
from tests.plain_rules import Rules


def jumps(*texts):
    return [Jump.read(text) for text in texts]


THREE = jumps("aa.>..a", "aa.<..a", "aaa.>...a")
SAME = jumps("aa.>..a", "aa.=..a", "aa.>...")
LOT = OnePeg().lot_over(".a")


def some_settings():
    yield [1], THREE, LOT
    yield [1], SAME, LOT
    yield [1], SAME + jumps("aaa.<.a.a"), AtMost(1).lot_over("#.a")
    yield [1], THREE, PegAt().lot_over(".:Aa")
    yield [1], SAME, PegAt().lot_over("#.:Aa")
    yield [1, 2], jumps("ab.>..b", "bb.=.aa", "ba.<.b.", "aa.>..a"), OnePeg("b").lot_over(".ab")
    yield [1, 1], jumps("ab.>..b", "ab.>..a"), AtMost(0, "b").lot_over(".ab")
    yield [1], jumps("aa.>..a"), Machine.nothing(".a")
    yield [1], THREE, Machine.everything(".a")


def some_fact(random, candidates, lot):
    """A fact that can be told, true or not."""
    word = random.choice(("on", "off", "leads", "leads", "stuck", "down", "never", "never"))
    if word in ("on", "off"):
        return word, random.randrange(len(candidates))
    row = "".join(random.choice(lot.signs + lot.signs[-1]) for _ in range(random.randrange(3, 6)))
    if word != "leads":
        return word, row
    card = Card([1, 2][:2 if "b" in lot.signs else 1], candidates) if len(candidates) != 2 else Card([1, 1], candidates)
    ends = sorted(plain_next(card, row, "row"))
    return ("leads", row, random.choice(ends)) if ends else ("down", row)


def plain_clashes(facts):
    """The facts that contradict each other, two by two."""
    words = (("off", "on"), ("down", "never"), ("leads", "stuck"))
    return sorted((fact, other) for fact in facts for other in facts
                  if (fact[0], other[0]) in words and fact[1] == other[1])


class ClosedTest(LeapTest):
    def test_against_a_plain_application_of_the_rules(self):
        random = Random(44)
        used = set()
        for worths, candidates, lot in some_settings():
            rules = Rules(worths, candidates, lot)
            for _ in range(40):
                told = [some_fact(random, candidates, lot) for _ in range(random.randrange(1, 7))]
                ledger = Ledger(worths, candidates, lot)
                ledger.tell(*told)
                wanted = rules.closed(told)
                self.assertEqual(ledger.closed(), wanted, told)
                self.assertEqual(ledger.told_facts, sorted(set(told)))
                for fact in wanted:
                    self.assertIs(ledger.knows(fact), True)
                    steps = ledger.why(fact)
                    rules.check_steps(self, set(told), fact, steps)
                    used |= {rule for _, rule, _ in steps}
                self.assertEqual(ledger.clashes(), plain_clashes(wanted))
        self.assertEqual(used, set(range(10)))

    def test_true_facts_give_true_facts(self):
        random = Random(45)
        for worths, candidates, lot in some_settings():
            for _ in range(12):
                chosen = [k for k in range(len(candidates)) if random.randrange(2)]
                card = Card(worths, [candidates[k] for k in chosen])
                told = [fact for fact in [some_fact(random, candidates, lot) for _ in range(12)]
                        if self.is_true(fact, chosen, card, lot)]
                ledger = Ledger(worths, candidates, lot)
                ledger.tell(*told)
                for fact in ledger.closed():
                    self.assertTrue(self.is_true(fact, chosen, card, lot), (fact, told))
                self.assertEqual(ledger.clashes(), [])

    def is_true(self, fact, chosen, card, lot):
        word, *parts = fact
        if word in ("on", "off"):
            return (parts[0] in chosen) == (word == "on")
        if word == "leads":
            return parts[1] in plain_next(card, parts[0], "row")
        if word == "stuck":
            return not plain_moves(card, parts[0], "row")
        return plain_hope(card, parts[0], lot, "row") == (word == "down")

    def test_an_empty_ledger(self):
        ledger = Ledger([1], THREE, LOT)
        self.assertEqual((ledger.told_facts, ledger.closed(), ledger.clashes()), ([], [], []))
        self.assertIs(ledger.knows(("down", "a")), False)
        self.assertIsNone(ledger.why(("down", "a")))
        ledger.tell()
        self.assertEqual(ledger.closed(), [])

    def test_rows_with_walls_and_marks(self):
        lot = PegAt().lot_over("#.:Aa")
        ledger = Ledger([1], THREE, lot)
        ledger.tell(("on", 0), ("off", 1), ("off", 2), ("never", "#aA."), ("down", "aa:#"))
        self.assertTrue(ledger.knows(("leads", "aa:#", "..A#")))
        self.assertTrue(ledger.knows(("down", "..A#")))
        self.assertTrue(ledger.knows(("leads", "#aA.", "#.:a")))
        self.assertTrue(ledger.knows(("never", "#.:a")))
        self.assertTrue(ledger.knows(("stuck", "#.:a")))
        self.assertEqual(ledger.closed(), Rules([1], THREE, lot).closed(ledger.told_facts))

    def test_long_rows(self):
        ledger = Ledger([1], THREE, LOT)
        row = ".a" * 29 + ".."
        ledger.tell(("off", 0), ("stuck", "a" * 60), ("never", "aa" + row), ("on", 1))
        self.assertTrue(ledger.knows(("never", "aa" + row)))
        self.assertTrue(ledger.knows(("never", "a" * 60)))


class RuleTest(LeapTest):
    """Each rule by itself: what it gives, and that it gives nothing where a fact that it needs is missing."""

    def gives(self, candidates, lot, told, wanted, rule, sources):
        rules = Rules([1], candidates, lot)
        ledger = Ledger([1], candidates, lot)
        ledger.tell(*told)
        steps = ledger.why(wanted)
        self.assertIsNotNone(steps)
        rules.check_steps(self, set(told), wanted, steps)
        self.assertEqual((steps[-1][1], set(steps[-1][2])), (rule, set(sources)))
        return ledger

    def lacks(self, candidates, lot, told, fact):
        ledger = Ledger([1], candidates, lot)
        ledger.tell(*told)
        self.assertIs(ledger.knows(fact), False)
        self.assertIsNone(ledger.why(fact))
        self.assertEqual(ledger.closed(), Rules([1], candidates, lot).closed(told))

    def test_rule_1(self):
        leads = ("leads", "aa.", "..a")
        self.gives(THREE, LOT, [leads], ("on", 0), 1, [leads])
        self.gives(SAME, LOT, [leads, ("off", 1)], ("on", 0), 1, [leads, ("off", 1)])
        self.gives(SAME, LOT, [leads, ("off", 0)], ("on", 1), 1, [leads, ("off", 0)])
        self.lacks(SAME, LOT, [leads], ("on", 0))
        self.lacks(SAME, LOT, [leads, ("off", 2)], ("on", 0))
        self.lacks(SAME, LOT, [leads, ("off", 2)], ("on", 1))
        self.gives(SAME, LOT, [leads, ("off", 0), ("off", 1)], ("on", 0), 1, [leads, ("off", 1)])

    def test_rule_2(self):
        told = [("stuck", "aaa.")]
        self.gives(THREE, LOT, told, ("off", 0), 2, told)
        self.gives(THREE, LOT, told, ("off", 2), 2, told)
        self.lacks(THREE, LOT, told, ("off", 1))

    def test_rule_3(self):
        lot = Machine.nothing(".a")
        self.gives(THREE, lot, [("on", 0), ("down", "aa.")], ("leads", "aa.", "..a"), 3, [("on", 0)])
        self.lacks(THREE, lot, [("on", 0), ("down", "aaa")], ("leads", "aa.", "..a"))
        self.lacks(THREE, lot, [("on", 2), ("never", "aa.")], ("leads", "aa.", "..a"))
        # the row of the fact occurs in an earlier step
        ledger = self.gives(THREE, lot, [("on", 0), ("stuck", "aaaa.")], ("leads", "aa..a", "..a.a"), 3, [("on", 0)])
        self.assertTrue(any("aa..a" in fact for fact, _, _ in ledger.why(("leads", "aa..a", "..a.a"))[:-1]))

    def test_rule_4(self):
        lot = Machine.of_rows(".a", ["a.."])
        leads = ("leads", "aaa.", "a..a")
        self.gives(THREE, lot, [leads, ("down", "a..a")], ("down", "aaa."), 4, [leads, ("down", "a..a")])
        self.lacks(THREE, lot, [leads], ("down", "aaa."))
        self.lacks(THREE, lot, [("down", "a..a"), ("stuck", ".a")], ("down", "aaa."))

    def test_rule_5(self):
        leads = ("leads", "aa.aa", "..aaa")
        self.gives(THREE, LOT, [leads, ("never", "aa.aa")], ("never", "..aaa"), 5, [leads, ("never", "aa.aa")])
        self.lacks(THREE, LOT, [leads], ("never", "..aaa"))
        self.lacks(THREE, LOT, [("never", "aa.aa"), ("off", 2)], ("never", "..aaa"))

    def test_rule_6(self):
        self.gives(THREE, LOT, [("stuck", ".a.")], ("down", ".a."), 6, [])
        self.gives(THREE, LOT, [("leads", "aa.", "..a")], ("down", "..a"), 6, [])
        self.lacks(THREE, LOT, [("stuck", "aa.")], ("down", "aa."))
        self.lacks(THREE, LOT, [("stuck", ".aa")], ("down", ".a."))

    def test_rule_7(self):
        self.gives(THREE, LOT, [("stuck", "a.a")], ("never", "a.a"), 7, [])
        lot = Machine.of_rows(".a", [".a"])
        self.gives(THREE, lot, [("off", 0), ("stuck", "....")], ("never", "...."), 7, [])
        self.gives(THREE, lot, [("off", 0), ("off", 2), ("stuck", "aaa.")], ("never", "aaa."), 7, [("off", 0), ("off", 2)])
        self.gives(THREE, lot, [("off", 2), ("never", "a..a"), ("down", "aaa.")], ("never", "aaa."), 7,
                   [("off", 2), ("never", "a..a")])
        self.gives(THREE, lot, [("never", "...a"), ("never", "a..a"), ("down", "aaa.")], ("never", "aaa."), 7,
                   [("never", "...a"), ("never", "a..a")])
        self.lacks(THREE, LOT, [("off", 0), ("down", "aaa."), ("never", "a..a")], ("never", "aaa."))
        self.lacks(THREE, Machine.everything(".a"), [("off", 0), ("off", 2), ("stuck", "aaa.")], ("never", "aaa."))
        self.lacks(THREE, lot, [("off", 0), ("stuck", "...")], ("never", "a.."))
        # one never fact may stand for several candidates
        self.gives(SAME, lot, [("never", "..a"), ("never", "..."), ("down", "aa.")], ("never", "aa."), 7,
                   [("never", "..a"), ("never", "...")])

    def test_rule_8(self):
        self.gives(THREE, LOT, [("off", 0), ("down", "aa.")], ("stuck", "aa."), 8, [("off", 0)])
        self.gives(THREE, LOT, [("down", ".a.")], ("stuck", ".a."), 8, [])
        self.gives(THREE, LOT, [("off", 0), ("off", 2), ("down", "aaa.")], ("stuck", "aaa."), 8, [("off", 0), ("off", 2)])
        self.lacks(THREE, LOT, [("off", 0), ("down", "aaa.")], ("stuck", "aaa."))
        self.lacks(THREE, LOT, [("off", 0), ("on", 2), ("down", "aaa.")], ("stuck", "aaa."))
        self.lacks(THREE, LOT, [("off", 0), ("off", 2), ("down", ".")], ("stuck", "aaa."))

    def test_rule_9(self):
        lot = Machine.of_rows(".a", ["a..a", "..."])
        self.gives(THREE, lot, [("down", "aa.")], ("leads", "aa.", "..a"), 9, [("down", "aa.")])
        self.gives(THREE, lot, [("down", "aa.")], ("down", "..a"), 9, [("down", "aa.")])
        self.gives(THREE, lot, [("down", "aaa."), ("off", 0)], ("leads", "aaa.", "...a"), 9, [("down", "aaa."), ("off", 0)])
        self.gives(THREE, lot, [("down", "aaa."), ("never", "...a")], ("leads", "aaa.", "a..a"), 9,
                   [("down", "aaa."), ("never", "...a")])
        self.gives(SAME, lot, [("down", "aa."), ("off", 2)], ("leads", "aa.", "..a"), 9, [("down", "aa."), ("off", 2)])
        self.lacks(THREE, LOT, [("down", "aaa.")], ("leads", "aaa.", "...a"))
        self.lacks(THREE, LOT, [("stuck", "aa."), ("never", "aa.")], ("leads", "aa.", "..a"))
        self.lacks(THREE, Machine.everything(".a"), [("down", "aa.")], ("leads", "aa.", "..a"))
        # every candidate is off, so each of the rows stands alone
        ledger = self.gives(THREE, lot, [("down", "aaa."), ("off", 0), ("off", 2)], ("leads", "aaa.", "...a"), 9,
                            [("down", "aaa."), ("off", 0)])
        self.assertTrue(ledger.knows(("leads", "aaa.", "a..a")))

    def test_a_told_fact_has_the_rule_0(self):
        told = [("leads", "aa.", "..a"), ("on", 0), ("down", "..a"), ("down", "aa.")]
        ledger = Ledger([1], THREE, LOT)
        ledger.tell(*told)
        for fact in told:
            self.assertEqual(ledger.why(fact)[-1], (fact, 0, ()))
        ledger.take_back(("on", 0))
        self.assertEqual(ledger.why(("on", 0))[-1], (("on", 0), 1, (("leads", "aa.", "..a"),)))
        ledger.tell(("on", 0))
        self.assertEqual(ledger.why(("on", 0))[-1], (("on", 0), 0, ()))


class LedgerTest(LeapTest):
    def test_tell(self):
        ledger = Ledger([1], THREE, LOT)
        self.assertIsNone(ledger.tell(("on", 0), ("never", "aa."), ("on", 0)))
        ledger.tell(("never", "aa."))
        self.assertEqual(ledger.told_facts, [("never", "aa."), ("on", 0)])

    def test_refused_facts(self):
        wrong = (("on",), ("on", 0, 1), ("on", "0"), ("on", None), ("on", -1), ("on", 3), ("off", 3), ("off", -3),
                 ("off", "aa."), ("stuck",), ("stuck", "aa.", "..a"), ("stuck", 0), ("down", None), ("never", ("aa.",)),
                 ("leads", "aa."), ("leads", "aa.", "..a", "..a"), ("leads", "aa.", 5), ("seen", "aa."), ("seen", 0),
                 ("", "aa."), ["on", 0], ["stuck", "aa."], "on", (), None, 7, ("on", [0]), (["on"], 0), (0, "on"),
                 ("stuck", "A"), ("stuck", "#"), ("stuck", "b"), ("stuck", "x"), ("never", "ab"), ("down", ":"),
                 ("leads", "aa.", "..."), ("leads", "aa.", "aa."), ("leads", "..a", "aa."), ("leads", "aa.", "..a."),
                 ("leads", ".aa", "..a"), ("leads", "a.", ".a"), ("leads", "aA.", "..a"))
        for fact in wrong:
            ledger = Ledger([1], THREE, LOT)
            ledger.tell(("on", 0))
            self.fails(InvalidFact, "fact", fact, ledger.tell, fact)
            self.fails(InvalidFact, "fact", fact, ledger.tell, ("never", "aa."), fact, ("on", 9))
            self.assertEqual(ledger.told_facts, [("on", 0)])
            self.fails(InvalidFact, "fact", fact, ledger.take_back, fact)
            self.assertIs(ledger.knows(fact), False)
            self.assertIsNone(ledger.why(fact))
            self.assertEqual(ledger.closed(), [("on", 0)])

    def test_take_back(self):
        ledger = Ledger([1], THREE, LOT)
        ledger.tell(("stuck", "aaa."), ("off", 0), ("never", "aa."))
        before = ledger.closed()
        self.assertIsNone(ledger.take_back(("off", 0)))
        # it still follows from what was told
        self.assertEqual(ledger.closed(), before)
        self.assertEqual(ledger.told_facts, [("never", "aa."), ("stuck", "aaa.")])
        ledger.take_back(("stuck", "aaa."))
        self.assertEqual(ledger.closed(), Rules([1], THREE, LOT).closed([("never", "aa.")]))
        for fact in (("stuck", "aaa."), ("off", 0), ("off", 2), ("stuck", "aa."), ("on", 1), ("down", "..a")):
            self.fails(InvalidFact, "fact", fact, ledger.take_back, fact)
        self.assertEqual(ledger.told_facts, [("never", "aa.")])
        ledger.take_back(("never", "aa."))
        self.assertEqual(ledger.closed(), [])

    def test_facts_that_others_follow_from(self):
        ledger = Ledger([1], THREE, LOT)
        ledger.tell(("on", 0))
        ledger.tell(("never", "aa.a"))
        self.assertTrue(ledger.knows(("never", "..aa")))
        ledger.take_back(("on", 0))
        self.assertFalse(ledger.knows(("never", "..aa")))

    def test_clashes(self):
        ledger = Ledger([1], THREE, LOT)
        ledger.tell(("on", 0), ("off", 0), ("off", 1))
        self.assertEqual(ledger.clashes(), [(("off", 0), ("on", 0))])
        ledger.tell(("never", "..a"), ("stuck", ".aa"), ("leads", ".aa", "a.."), ("never", "aaaa"))
        facts = Rules([1], THREE, LOT).closed(ledger.told_facts)
        self.assertEqual(ledger.clashes(), plain_clashes(facts))
        kinds = {(fact[0], other[0]) for fact, other in ledger.clashes()}
        self.assertEqual(kinds, {("off", "on"), ("down", "never"), ("leads", "stuck")})
        self.assertIn((("off", 1), ("on", 1)), ledger.clashes())
        self.assertIn((("down", "..a"), ("never", "..a")), ledger.clashes())
        self.assertIn((("leads", ".aa", "a.."), ("stuck", ".aa")), ledger.clashes())

    def test_twin(self):
        ledger = Ledger([1], THREE, LOT)
        ledger.tell(("stuck", "aaa."), ("never", "a.a"))
        twin = ledger.twin()
        self.assertIsInstance(twin, Ledger)
        self.assertEqual((twin.told_facts, twin.closed()), (ledger.told_facts, ledger.closed()))
        before = ledger.told_facts, ledger.closed()
        twin.take_back(("stuck", "aaa."))
        twin.tell(("on", 2), ("down", ".aa"))
        self.assertEqual((ledger.told_facts, ledger.closed()), before)
        self.assertEqual(twin.told_facts, [("down", ".aa"), ("never", "a.a"), ("on", 2)])
        ledger.tell(("off", 1))
        self.assertFalse(twin.knows(("off", 1)))

    def test_lists_may_be_changed(self):
        worths, candidates = [1], list(THREE)
        ledger = Ledger(worths, candidates, LOT)
        ledger.tell(("stuck", "aaa."))
        before = ledger.closed()
        worths.append(0)
        candidates.clear()
        ledger.told_facts.clear()
        ledger.closed().clear()
        ledger.why(("off", 0)).clear()
        ledger.clashes().append(1)
        self.assertEqual((ledger.told_facts, ledger.closed(), ledger.clashes()), ([("stuck", "aaa.")], before, []))
        self.assertEqual(len(ledger.twin().closed()), len(before))

    def test_errors_of_the_class(self):
        for candidates in ([], THREE + THREE[:1], jumps("ab.>..a"), jumps("aa.>.aa")):
            for lot in (LOT, Machine.everything(".ab"), Machine.everything("a")):
                self.fails(InvalidCard, "part", "jumps", Ledger, [1], candidates, lot)
                self.fails(InvalidCard, "part", "worths", Ledger, [0], candidates, lot)
        nine = jumps(*[f"{x}{y}.{way}..{z}" for x, y, z in ("aaa", "baa", "abb") for way in "><="])
        self.fails(InvalidCard, "part", "jumps", Ledger, [1, 1], nine, OnePeg().lot_over(".ab"))
        for signs in (".ab", "a", ":a", ".:AB"):
            self.fails(Unlike, "signs", signs, Ledger, [1], THREE, Machine.everything(signs))
        for signs in (".a", "#.a", ".:Aa", "#.:Aa"):
            self.assertEqual(Ledger([1], THREE, pattern("a", signs)).closed(), [])
