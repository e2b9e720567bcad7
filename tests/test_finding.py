from leapcard.cards import Card
from leapcard.errors import InvalidWeight, TooMany
from leapcard.finding import falling_weights, kept_weights
from leapcard.weights import Weights
from tests.helpers import LeapTest
from tests.test_weights import tables

BOTH = Card.read("a=1: aa.=..a")
PRIMES = [n for n in range(2, 98) if all(n % k for k in range(2, n))]
CARDS = (BOTH, Card.read("a=1: aa.>.a."), Card.read("a=1: aaa.=.a.a"), Card.read("a=1:"), Card.read("a=1: aa.>... aaa.<..a."),
         Card.read("a=1 b=1: ab.>..b"), Card.read("a=1 b=2: bb.=.aa ab.>..b"), Card.read("a=1 b=1: aa.>..b bb.>..a ab.=..."))


def flat(weights):
    return [number for row in weights.table for number in row]


class KeptWeightsTest(LeapTest):
    def test_example(self):
        found = kept_weights(Card.read("a=1: aa.=..a"), 3, 2)
        self.assertEqual((found[0].table, found[1].table), (((1, 0, 1),), ((0, 1, 1),)))
        self.assertEqual(len(found), 2)

    def check_form(self, card, period, modulus, found):
        """The reduced echelon form, row by row."""
        firsts = []
        for weights in found:
            self.assertEqual((weights.period, weights.modulus), (period, modulus))
            self.assertEqual(len(weights.table), len(card.worths))
            self.assertTrue(weights.is_kept(card))
            first = [at for at, number in enumerate(flat(weights)) if number][0]
            self.assertEqual(flat(weights)[first], 1)
            firsts.append(first)
        self.assertEqual(firsts, sorted(set(firsts)))
        for first in firsts:
            self.assertEqual(sorted(flat(weights)[first] for weights in found), [0] * (len(found) - 1) + [1])

    def test_against_all_small_tables(self):
        sizes = set()
        for card in CARDS:
            kinds = len(card.worths)
            for period in (1, 2, 3, 4):
                for modulus in (2, 3, 5):
                    if modulus ** (kinds * period) > 700:
                        continue
                    found = kept_weights(card, period, modulus)
                    self.check_form(card, period, modulus, found)
                    kept = [table for table in tables(kinds, period, range(modulus))
                            if Weights(period, modulus, table).is_kept(card)]
                    # rows of this form give different sums, so their number shows that they give all
                    self.assertEqual(len(kept), modulus ** len(found))
                    sizes.add(len(found))
        self.assertLessEqual({0, 1, 2, 4}, sizes)

    def test_a_jump_that_goes_one_way_only(self):
        found = {}
        for text in ("a=1: aaa.>.a.a", "a=1: aaa.<.a.a"):
            card = Card.read(text)
            found[text] = kept_weights(card, 7, 2)
            self.check_form(card, 7, 2, found[text])
            self.assertEqual(len(found[text]), 3)
        self.assertNotEqual(*found.values())

    def test_every_kept_table_is_one_sum(self):
        for card, period, modulus in ((BOTH, 3, 2), (CARDS[1], 3, 3), (CARDS[5], 2, 3), (CARDS[7], 3, 2)):
            found = kept_weights(card, period, modulus)
            for table in tables(len(card.worths), period, range(modulus)):
                weights = Weights(period, modulus, table)
                if weights.is_kept(card):
                    total = weights * 0
                    for row in found:
                        first = [at for at, number in enumerate(flat(row)) if number][0]
                        total = total + row * flat(weights)[first]
                    self.assertEqual(total, weights)

    def test_primes(self):
        for card in CARDS:
            for modulus in (2, 3, 7, 97):
                for period in (1, 6, 12):
                    self.check_form(card, period, modulus, kept_weights(card, period, modulus))
        for modulus in PRIMES:
            self.check_form(BOTH, 3, modulus, kept_weights(BOTH, 3, modulus))
        # a = b and b = c and c = 0 modulo 97, and nothing more
        self.assertEqual(kept_weights(Card.read("a=1: aa.>.a."), 5, 97), [])

    def test_no_jumps_keep_every_table(self):
        card = Card.read("a=1 b=1:")
        found = kept_weights(card, 2, 97)
        self.assertEqual([flat(weights) for weights in found], [[int(i == j) for j in range(4)] for i in range(4)])

    def test_only_zeros(self):
        self.assertEqual(kept_weights(BOTH, 3, 3), [])
        self.assertEqual(kept_weights(BOTH, 1, 2), [])
        self.assertEqual(kept_weights(BOTH, 12, 97), [])

    def test_errors(self):
        for modulus in (0, 1, -1, -2, -3, 4, 6, 9, 49, 91, 95, 98, 101, 103, 10 ** 29):
            self.fails(InvalidWeight, "part", "modulus", kept_weights, BOTH, 3, modulus)
            for period in (0, -1, 13):
                self.fails(InvalidWeight, "part", "period", kept_weights, BOTH, period, modulus)
        self.fails(InvalidWeight, "part", "period", kept_weights, BOTH, 13, 2)


class FallingWeightsTest(LeapTest):
    def test_against_all_small_tables(self):
        for card in CARDS:
            kinds = len(card.worths)
            for period in (1, 2, 3):
                for high in (0, 1, 2, 4):
                    if (high + 1) ** (kinds * period) <= 800:
                        wanted = [Weights(period, 0, table) for table in tables(kinds, period, range(high + 1))]
                        wanted = [weights for weights in wanted if weights.falls(card)]
                        found = falling_weights(card, period, high)
                        self.assertEqual(found, wanted)
                        self.assertEqual([weights.table for weights in found], sorted(weights.table for weights in found))

    def test_high_0(self):
        for period in (1, 12):
            for card in CARDS:
                found = falling_weights(card, period, 0)
                self.assertEqual(found, [Weights(period, 0, [[0] * period for _ in card.worths])])

    def test_the_limit(self):
        none = Card.read("a=1:")
        self.assertEqual(len(falling_weights(none, 1, 19999)), 20000)
        self.fails(TooMany, "limit", 20000, falling_weights, none, 1, 20000)
        self.fails(TooMany, "limit", 20000, falling_weights, BOTH, 12, 2)
        self.fails(TooMany, "limit", 20000, falling_weights, Card.read("a=1 b=1:"), 2, 11)
        self.assertEqual(len(falling_weights(Card.read("a=1 b=1:"), 2, 10)), 11 ** 4)
        self.fails(TooMany, "limit", 20000, falling_weights, Card.read("a=1 b=1 c=1 d=1:"), 12, 10 ** 29)
        self.assertEqual(len(falling_weights(Card.read("a=1: aa.=..a"), 12, 1)), len(
            [1 for table in tables(1, 12, (0, 1)) if Weights(12, 0, table).falls(BOTH)]))

    def test_errors(self):
        for period in (0, 13, -4):
            for high in (0, 1, 20000):
                self.fails(InvalidWeight, "part", "period", falling_weights, BOTH, period, high)
