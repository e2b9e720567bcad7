from random import Random

from leapcard.cards import Card
from leapcard.errors import InvalidRow, InvalidWeight, Unlike
from leapcard.finding import falling_weights, kept_weights
from leapcard.forbids import forbids, let_through, values_of
from leapcard.machine import Machine
from leapcard.patterns import pattern
from leapcard.targets import AtMost, OnePeg, PegAt, Shape
from leapcard.weights import Weights
from tests.helpers import LeapTest, plain_hope, rows_of, rows_up_to, some_machine
from tests.test_weights import plain_value

BOTH = Card.read("a=1: aa.=..a")
TWO = Card.read("a=1 b=2: bb.=.aa ab.>..b baa.<..b.")
LOT = OnePeg().lot_over(".a")
BIG = 10 ** 29


def some_lots():
    yield LOT, 7
    yield AtMost(1).lot_over("#.a"), 5
    yield PegAt().lot_over(".:Aa"), 4
    yield OnePeg("b").lot_over(".ab"), 5
    yield Shape("(aa.)*|.a").lot_over(".a"), 7
    yield Machine.nothing(".a"), 3
    yield Machine.everything(".a"), 5
    yield Machine.of_rows(".ab", ["", "ab.", "b.b", "a"]), 4
    # states that no row leads to, and a state behind which no row ends
    yield Machine(".a", [[1, 3], [1, 2], [3, 3], [3, 3], [2, 4]], [2, 4]), 5
    random = Random(41)
    for size in (2, 3, 4):
        yield some_machine(random, ".a", size), 6


def some_weights(kinds):
    random = Random(kinds)
    for period in (1, 2, 3, 5, 12):
        for modulus, high in ((0, 2), (0, BIG), (2, 2), (5, 5), (97, 97)):
            yield Weights(period, modulus, [[random.randrange(-high, high) for _ in range(period)] for _ in range(kinds)])


def kinds_in(signs):
    return 2 if "b" in signs else 1


def plain_values(weights, lot, length):
    return sorted({plain_value(weights, row) for row in rows_of(lot.signs, length) if row in lot})


class ValuesTest(LeapTest):
    def test_example(self):
        found = kept_weights(Card.read("a=1: aa.=..a"), 3, 2)
        self.assertEqual((found[0].table, found[1].table), (((1, 0, 1),), ((0, 1, 1),)))

    def test_against_all_short_rows(self):
        for lot, most in some_lots():
            for weights in some_weights(kinds_in(lot.signs)):
                for length in range(most + 1):
                    self.assertEqual(values_of(weights, lot, length), plain_values(weights, lot, length))

    def test_lengths(self):
        weights = Weights(3, 2, [[1, 0, 1]])
        self.assertEqual(values_of(weights, LOT, 0), [])
        self.assertEqual(values_of(weights, Machine.nothing(".a"), 4), [])
        self.assertEqual(values_of(weights, Machine.everything(".a"), 0), [0])
        self.assertEqual(values_of(weights, LOT, 60), [0, 1])
        self.assertEqual(values_of(Weights(12, 0, [list(range(12))]), LOT, 60), list(range(12)))
        self.assertEqual(values_of(Weights(1, 0, [[BIG]]), Machine.everything(".a"), 60), [n * BIG for n in range(61)])
        values_of(weights, LOT, 60).append(9)
        self.assertEqual(values_of(weights, LOT, 60), [0, 1])

    def test_errors(self):
        for modulus in (0, 2):
            weights = Weights(2, modulus, [[0, 1]])
            for signs in (".ab", "b", "#.ac", ".:ABab", ":D"):
                self.fails(InvalidWeight, "part", "table", values_of, weights, Machine.everything(signs), 0)
            self.assertEqual(values_of(Weights(2, modulus, [[0, 1]]), Machine.everything("#"), 3), [0])


class ForbidsTest(LeapTest):
    def plain_forbids(self, weights, card, lot, row):
        values = plain_values(weights, lot, len(row))
        value = plain_value(weights, row)
        if weights.is_kept(card) and value not in values:
            return True
        return weights.falls(card) and all(value < other for other in values)

    def test_against_plain_values_and_plays(self):
        said = {True: 0, False: 0}
        for card, lots in ((BOTH, [LOT, AtMost(0).lot_over("#.a"), PegAt().lot_over(".:Aa"), Machine.nothing(".a"),
                                   Machine.of_rows(".a", ["a", "..a"])]),
                           (Card.read("a=1:"), [LOT]), (TWO, [OnePeg("b").lot_over(".ab"), OnePeg("a").lot_over(".ab")]),
                           (Card.read("a=1 b=2: bb.>..b"), [AtMost(1, "b").lot_over(".ab") & Shape("_*a_*").lot_over(".ab")])):
            kinds = len(card.worths)
            some = list(some_weights(kinds)) + [Weights(2, 0, [[0, 0]] * kinds), Weights(3, 2, [[0, 0, 0]] * kinds)]
            some += [one for period in (1, 3) for prime in (2, 3) for one in kept_weights(card, period, prime)]
            some += falling_weights(card, 1, 2) + falling_weights(card, 2, 1)
            some += [Weights(1, 0, [[2]] * kinds), Weights(1, 0, [[1]] + [[0]] * (kinds - 1))]
            for lot in lots:
                for weights in some:
                    for row in rows_up_to(lot.signs, 5 if len(lot.signs) < 3 else 3):
                        found = forbids(weights, card, lot, row)
                        self.assertIs(found, self.plain_forbids(weights, card, lot, row))
                        said[found] += 1
                        if found:
                            self.assertFalse(plain_hope(card, row, lot, "row"))
        self.assertGreater(min(said.values()), 100)

    def test_kept_falling_and_other_weights(self):
        card = Card.read("a=1: aa.>..a")
        lot = Machine.of_rows(".a", ["aaa", ".aa", "a.a"])
        # the value falls: fewer pegs than all rows of the lot have
        self.assertIs(forbids(Weights(1, 0, [[1]]), card, lot, "a.."), True)
        self.assertIs(forbids(Weights(1, 0, [[1]]), card, lot, "aa."), False)
        # the value neither falls nor is kept
        self.assertIs(forbids(Weights(1, 0, [[-1]]), card, lot, "..."), False)
        self.assertIs(forbids(Weights(1, 2, [[1]]), card, lot, "..."), False)
        # the value is kept
        kept = Weights(3, 2, [[1, 0, 1]])
        self.assertIs(forbids(kept, card, lot, "a.."), values_of(kept, lot, 3) == [0])
        self.assertIs(forbids(Weights(3, 2, [[1, 0, 1]]), BOTH, LOT, "a.a"), False)
        self.assertIs(forbids(Weights(3, 2, [[1, 0, 1]]), BOTH, LOT, "a.aa.a"), False)
        self.assertIs(forbids(Weights(3, 2, [[0, 1, 1]]), BOTH, Machine.of_rows(".a", ["a....."]), ".a...."), True)

    def test_kept_weights_without_a_modulus(self):
        card = Card.read("a=1 b=2: bb.=..b")
        weights = Weights(1, 0, [[BIG], [0]])
        self.assertTrue(weights.is_kept(card))
        lot = Machine.of_rows(".ab", ["a.b", "aab"])
        self.assertEqual([forbids(weights, card, lot, row) for row in ("abb", "aaa", "bb.", "aab", "aba")],
                         [False, True, True, False, False])

    def test_a_lot_without_rows_of_that_length(self):
        lot = Machine.of_rows(".a", ["a", "..a"])
        for weights in (Weights(1, 0, [[1]]), Weights(3, 2, [[1, 0, 1]]), Weights(1, 0, [[0]])):
            self.assertIs(forbids(weights, BOTH, lot, ".."), True)
            self.assertIs(forbids(weights, BOTH, lot, ""), True)
        for weights in (Weights(1, 2, [[1]]), Weights(1, 0, [[-1]])):
            self.assertIs(forbids(weights, BOTH, lot, ".."), False)

    def test_a_long_row(self):
        self.assertIs(forbids(Weights(3, 2, [[1, 0, 1]]), BOTH, LOT, "a.a" * 20), False)
        self.assertIs(forbids(Weights(3, 2, [[1, 0, 1]]), BOTH, AtMost(0).lot_over(".a"), "a." * 30), False)
        self.assertIs(forbids(Weights(3, 2, [[1, 0, 1]]), BOTH, AtMost(0).lot_over(".a"), "a" + "." * 59), True)
        self.assertIs(forbids(Weights(1, 0, [[1]]), BOTH, Shape("a*").lot_over(".a"), "a" * 59 + "."), True)

    def test_errors(self):
        for modulus in (0, 2):
            thin = Weights(2, modulus, [[0, 1]])
            for signs in (".a", "a", ".abc"):
                self.fails(Unlike, "signs", signs, forbids, thin, TWO, Machine.everything(signs), "x")
            for row in ("c", "#", "A", "ax"):
                self.fails(InvalidRow, "row", row, forbids, thin, TWO, Machine.everything(".ab"), row)
            for row in ("", ".", "ab", "b"):
                self.fails(InvalidWeight, "part", "table", forbids, thin, TWO, Machine.everything(".ab"), row)
        wide = Weights(1, 0, [[1], [1]])
        self.assertIs(forbids(wide, BOTH, LOT, "."), True)
        self.fails(InvalidRow, "row", "b", forbids, wide, BOTH, LOT, "b")


class LetThroughTest(LeapTest):
    def test_against_all_short_rows(self):
        for lot, most in some_lots():
            for weights in some_weights(kinds_in(lot.signs)):
                if weights.modulus == 0:
                    continue
                machine = let_through(weights, lot)
                self.assertEqual(machine.signs, lot.signs)
                if machine.size < 500:
                    self.assertEqual(machine, machine.least())
                for length in range(min(most, 5) + 1):
                    values = plain_values(weights, lot, length)
                    for row in rows_of(lot.signs, length):
                        self.assertIs(row in machine, plain_value(weights, row) in values)

    def test_values_that_depend_on_the_length(self):
        for weights in (Weights(2, 3, [[1, 2]]), Weights(3, 5, [[1, 0, 4]]), Weights(1, 2, [[1]])):
            for lot in (pattern("a*", ".a"), pattern("(aa.)*", ".a"), pattern("(a...)*a*", ".a")):
                machine = let_through(weights, lot)
                for length in range(9):
                    values = plain_values(weights, lot, length)
                    self.assertEqual(list(machine.walk(length)),
                                     [row for row in rows_of(".a", length) if plain_value(weights, row) in values])
                for row in ("a" * 40, "a" * 41, "." * 40, ".a" * 30):
                    self.assertIs(row in machine, weights.value(row) in values_of(weights, lot, len(row)))

    def test_kept_weights_let_hope_through(self):
        for card, lot in ((BOTH, LOT), (BOTH, OnePeg().lot_over("#.a")), (TWO, OnePeg("b").lot_over(".ab"))):
            for weights in kept_weights(card, 3, 2) + kept_weights(card, 2, 3) + kept_weights(card, 4, 5):
                machine = let_through(weights, lot)
                for row in rows_up_to(lot.signs, 5):
                    self.assertTrue(row in machine or not plain_hope(card, row, lot, "row"))
                    self.assertIs(row not in machine, forbids(weights, card, lot, row))

    def test_machines(self):
        self.assertEqual(let_through(Weights(1, 2, [[1]]), pattern("a", ".a")), pattern("a", ".a"))
        self.assertEqual(let_through(Weights(1, 2, [[0]]), pattern("(a.)*", ".a")), pattern("(__)*", ".a"))
        self.assertEqual(let_through(Weights(2, 7, [[0, 1]]), Machine.nothing(".a")), Machine.nothing(".a"))
        self.assertEqual(let_through(Weights(1, 97, [[1]]), Machine.everything("#")), Machine.everything("#"))

    def test_errors(self):
        # a modulus of 0 comes before a peg without a weight
        for signs in (".a", ".ab", ":D"):
            self.fails(InvalidWeight, "part", "modulus", let_through, Weights(2, 0, [[0, 1]]), Machine.everything(signs))
        for signs in (".ab", ".:ABab", "d"):
            self.fails(InvalidWeight, "part", "table", let_through, Weights(2, 2, [[0, 1]]), Machine.everything(signs))
