from itertools import product
from random import Random

from leapcard.cards import Card
from leapcard.errors import InvalidRow, InvalidWeight
from leapcard.weights import Weights
from tests.helpers import LeapTest, plain_after, plain_moves, plain_sign, rows_of, rows_up_to

BOTH = Card.read("a=1: aa.=..a")
TWO = Card.read("a=1 b=2: bb.=.aa ab.>..b baa.<..b.")
BIG = 10 ** 29


def plain_value(weights, row):
    total = sum(weights.table["abcd".index(plain_sign(sign))][place % weights.period]
                for place, sign in enumerate(row) if plain_sign(sign) in "abcd")
    return total if weights.modulus == 0 else total % weights.modulus


def plain_window(weights, window, begin):
    """The value of a window that begins at a place."""
    return plain_value(weights, "." * begin + window)


def tables(kinds, period, numbers):
    """All tables with entries among the numbers."""
    for flat in product(numbers, repeat=kinds * period):
        yield [list(flat[kind * period:(kind + 1) * period]) for kind in range(kinds)]


class TableTest(LeapTest):
    def test_attributes(self):
        weights = Weights(3, 5, [[0, 4, 5], [-1, -5, 13]])
        self.assertEqual((weights.period, weights.modulus, weights.table), (3, 5, ((0, 4, 0), (4, 0, 3))))
        weights = Weights(1, 0, [[-BIG], [BIG], [0], [7]])
        self.assertEqual((weights.period, weights.modulus, weights.table), (1, 0, ((-BIG,), (BIG,), (0,), (7,))))
        self.assertEqual(Weights(2, 97, ((97, -98),)).table, ((0, 96),))

    def test_lists_are_copied(self):
        table = [[1, 2]]
        weights = Weights(2, 0, table)
        table[0][0] = 9
        table.append([3, 4])
        self.assertEqual(weights.table, ((1, 2),))

    def test_wrong_parts(self):
        good = {"period": 2, "modulus": 5, "table": [[1, 2]]}
        wrong = {"period": (0, -1, 13, BIG), "modulus": (1, -1, 98, -5, BIG),
                 "table": ([], [[1]], [[1, 2, 3]], [[1, 2], [1]], [[1, 2], []], [[1, 2]] * 5, [[]])}
        for part, values in wrong.items():
            for value in values:
                self.fails(InvalidWeight, "part", part, Weights, **{**good, part: value})
        for period in (2, 13):
            for modulus in (0, 98):
                for table in ([[1, 2]], [[1]]):
                    parts = [part for part, bad in (("period", period == 13), ("modulus", modulus == 98),
                                                    ("table", len(table[0]) != period)) if bad]
                    if parts:
                        self.fails(InvalidWeight, "part", parts[0], Weights, period, modulus, table)

    def test_limits(self):
        for period in (1, 12):
            for modulus in (0, 2, 97):
                for kinds in (1, 4):
                    weights = Weights(period, modulus, [[1] * period] * kinds)
                    self.assertEqual((weights.period, weights.modulus, len(weights.table)), (period, modulus, kinds))


class ValueTest(LeapTest):
    def test_value(self):
        for weights in (Weights(3, 0, [[1, 20, -300], [BIG, 0, 7]]), Weights(2, 7, [[3, 6], [1, 0]]), Weights(1, 2, [[1], [1]])):
            for row in rows_up_to("#.:ABab", 4):
                self.assertEqual(weights.value(row), plain_value(weights, row))
        self.assertEqual(Weights(2, 0, [[1, 10]]).value("aAaA#a"), 32)
        self.assertEqual(Weights(12, 97, [[96] * 12]).value("a" * 60), -60 % 97)

    def test_errors(self):
        weights = Weights(2, 3, [[0, 1], [0, 0]])
        for row in ("c", "C", "abd", "#D", "x", "a-", "a "):
            self.fails(InvalidRow, "row", row, weights.value, row)
        self.assertEqual(Weights(1, 0, [[1], [2], [3], [4]]).value("abcdABCD"), 20)


class KeptTest(LeapTest):
    def check(self, card, weights):
        """Hold is_kept and falls against the windows, and against all moves of all rows of some lengths."""
        kept, falls = True, weights.modulus == 0
        for before, after in card.pairs:
            for begin in range(weights.period):
                rise = plain_window(weights, after, begin) - plain_window(weights, before, begin)
                kept = kept and rise == 0
                falls = falls and rise <= 0
        self.assertIs(weights.is_kept(card), kept)
        self.assertIs(weights.falls(card), falls)
        return kept, falls

    def test_small_tables(self):
        seen = set()
        for modulus, numbers in ((0, (-1, 0, 1)), (2, (0, 1)), (3, (0, 1, 2))):
            for period in (1, 2, 3):
                for table in tables(1, period, numbers):
                    for card in (BOTH, Card.read("a=1:"), Card.read("a=1: aaa.>.a.a"), Card.read("a=1: aa.<.a.")):
                        seen.add((modulus == 0, self.check(card, Weights(period, modulus, table))))
        self.assertEqual(len(seen), 5)

    def test_windows_are_read_from_left_to_right(self):
        for text in ("a=1: aaa.>.a.a", "a=1: aaa.<.a.a"):
            for modulus, period in ((0, 5), (2, 7)):
                for table in tables(1, period, (0, 1)):
                    self.check(Card.read(text), Weights(period, modulus, table))
        kept = Weights(7, 2, [[0, 0, 1, 1, 1, 0, 1]])
        self.assertEqual([kept.is_kept(Card.read(text)) for text in ("a=1: aaa.>.a.a", "a=1: aaa.<.a.a")], [True, False])

    def test_two_kinds(self):
        random = Random(39)
        for period in (1, 2, 5, 12):
            for modulus in (0, 2, 97):
                for card in (TWO, Card.read("a=1 b=2: bb.>..b"), Card.read("a=2 b=1: ab.>.bb aab.=.bbb")):
                    for high in (1, 3):
                        table = [[random.randrange(high) for _ in range(period)] for _ in "ab"]
                        self.check(card, Weights(period, modulus, table))

    def test_values_along_moves(self):
        weights = [Weights(3, 2, [[1, 0, 1]]), Weights(3, 2, [[0, 1, 1]]), Weights(1, 0, [[1]]), Weights(3, 0, [[0, 0, 1]])]
        for board, lengths in (("row", range(9)), ("ring", (3, 6, 9))):
            for length in lengths:
                for row in rows_of(".a", length):
                    for move in plain_moves(BOTH, row, board):
                        after = plain_after(BOTH, row, move)
                        for one in weights:
                            if one.is_kept(BOTH):
                                self.assertEqual(one.value(after), one.value(row))
                            if one.falls(BOTH):
                                self.assertLessEqual(one.value(after), one.value(row))
        self.assertEqual([(one.is_kept(BOTH), one.falls(BOTH)) for one in weights],
                         [(True, False), (True, False), (False, True), (False, False)])

    def test_a_window_at_each_place_of_the_period(self):
        # the one place of the period where the value changes may be any of them, also within longer windows
        for period in (1, 2, 3, 4, 5, 12):
            for place in range(period):
                table = [[int(at == place) for at in range(period)]]
                kept, falls = self.check(Card.read("a=1: aa.>..a"), Weights(period, 0, table))
                self.assertFalse(kept)
                self.assertEqual(falls, period < 3)
                self.check(Card.read("a=1: aaa.>.a.a"), Weights(period, 0, table))
                self.check(Card.read("a=1: aaa.>.a.a"), Weights(period, 2, table))

    def test_falls_with_a_modulus(self):
        self.assertIs(Weights(1, 5, [[1]]).falls(BOTH), False)
        self.assertIs(Weights(1, 5, [[0]]).falls(BOTH), False)
        self.assertIs(Weights(1, 5, [[0]]).is_kept(BOTH), True)
        self.assertIs(Weights(1, 0, [[0]]).falls(BOTH), True)

    def test_large_numbers(self):
        card = Card.read("a=1 b=2: bb.>..b")
        self.assertFalse(Weights(3, 0, [[BIG, -BIG, 7], [BIG, BIG, BIG]]).is_kept(card))
        self.assertTrue(Weights(3, 0, [[BIG, -BIG, 7], [BIG, BIG, BIG]]).falls(card))
        self.assertTrue(Weights(3, 0, [[BIG, -BIG, 7], [0, 0, 0]]).is_kept(card))

    def test_more_kinds(self):
        for modulus in (0, 5):
            weights = Weights(2, modulus, [[0, 1]])
            self.fails(InvalidWeight, "part", "table", weights.is_kept, TWO)
            self.fails(InvalidWeight, "part", "table", weights.falls, TWO)
            self.fails(InvalidWeight, "part", "table", weights.is_kept, Card.read("a=1 b=1 c=1 d=1:"))
        weights = Weights(3, 2, [[1, 0, 1], [5, 5, 6], [0, 0, 1]])
        self.assertTrue(weights.is_kept(BOTH))


class OperatorTest(LeapTest):
    def test_sums_and_products(self):
        one, other = Weights(2, 5, [[1, 2], [3, 4]]), Weights(2, 5, [[4, 4], [0, 1]])
        self.assertEqual((one + other).table, ((0, 1), (3, 0)))
        self.assertEqual((one - other).table, ((2, 3), (3, 3)))
        self.assertEqual((-one).table, ((4, 3), (2, 1)))
        self.assertEqual((one * 3).table, ((3, 1), (4, 2)))
        self.assertEqual((one * -1), -one)
        self.assertEqual(one * 0, Weights(2, 5, [[0, 0], [5, 10]]))
        self.assertEqual(((one + other).period, (one + other).modulus), (2, 5))
        self.assertEqual((one.table, other.table), (((1, 2), (3, 4)), ((4, 4), (0, 1))))
        large = Weights(1, 0, [[BIG]])
        self.assertEqual((large + large * 3 - large).table, ((3 * BIG,),))
        self.assertEqual((-large).table, ((-BIG,),))
        self.assertEqual((large * BIG).table, ((BIG * BIG,),))

    def test_unlike_weights(self):
        one = Weights(2, 5, [[1, 2]])
        for period in (2, 3):
            for modulus in (5, 0, 7):
                for kinds in (1, 2):
                    other = Weights(period, modulus, [[1] * period] * kinds)
                    parts = [part for part, bad in (("period", period != 2), ("modulus", modulus != 5),
                                                    ("table", kinds != 1)) if bad]
                    for call in (lambda: one + other, lambda: one - other):
                        if parts:
                            self.fails(InvalidWeight, "part", parts[0], call)
                        else:
                            self.assertIsInstance(call(), Weights)

    def test_equal(self):
        self.assertEqual(Weights(2, 5, [[1, 2]]), Weights(2, 5, [[6, -3]]))
        for other in (Weights(2, 5, [[1, 3]]), Weights(2, 7, [[1, 2]]), Weights(1, 5, [[1]]), Weights(2, 5, [[1, 2], [0, 0]]),
                      Weights(2, 0, [[1, 2]]), None, ((1, 2),)):
            self.assertNotEqual(Weights(2, 5, [[1, 2]]), other)
