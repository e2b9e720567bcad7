from leapcard.cards import Card
from leapcard.errors import InvalidBoard, InvalidMeasure, InvalidRow
from leapcard.measures import measured
from leapcard.reach import fewest_left, least_worth, longest_full
from tests.helpers import LeapTest, plain_measure, rows_up_to

MEASURES = ("left", "worth", "long")
CARDS = (("a=1: aa.=..a", "#.a", 6), ("a=2: aaa.>...a aa.<..a", ".:Aa", 5), ("a=1 b=3: ab.=..b bb.=.aa", ".ab", 6),
         ("a=5 b=4: ab.>.bb bb.=...", "#.ab", 5), ("a=3:", "#.:Aa", 3))


class MeasuredTest(LeapTest):
    def test_against_all_plays(self):
        for text, signs, most in CARDS:
            card = Card.read(text)
            for board in ("row", "ring"):
                for row in rows_up_to(signs, most):
                    for measure in MEASURES:
                        self.assertEqual(measured(card, row, measure, board=board),
                                         plain_measure(card, row, measure, board), (text, row, measure, board))

    def test_the_same_as_playing_out(self):
        card = Card.read("a=1 b=3: ab.=..b bb.=.aa")
        for row in ("abab.bb.ab", ".a.bb.b.a.bb", "bbb.bbb.bbb"):
            for board in ("row", "ring"):
                self.assertEqual(measured(card, row, "left", board=board), fewest_left(card, row, board=board))
                self.assertEqual(measured(card, row, "worth", board=board), least_worth(card, row, board=board))
                self.assertEqual(measured(card, row, "long", board=board), len(longest_full(card, row, board=board)))

    def test_many_walls(self):
        card = Card.read("a=1: aa.=..a")
        row = "#".join(["aa.aa.a", "", "a", "aaa.aaa", "..aaA.a", "aa.aa:a.", "aaaa.aaa"])
        for measure in MEASURES:
            self.assertEqual(measured(card, row, measure),
                             sum(plain_measure(card, piece, measure, "row") for piece in row.split("#")))

    def test_the_empty_row_and_cards_without_jumps(self):
        for text in ("a=1: aa.=..a", "a=4:"):
            for board in ("row", "ring"):
                self.assertEqual([measured(Card.read(text), "", measure, board=board) for measure in MEASURES], [0, 0, 0])
        self.assertEqual([measured(Card.read("a=4 b=7:"), "#aA.:bB", measure) for measure in MEASURES], [4, 22, 0])

    def test_rings_shorter_than_a_window(self):
        card = Card.read("a=1: aaa.=...a aa.=..a")
        for row, left, long in (("aa", 2, 0), ("aa.", 1, 1), ("a.a", 1, 1), ("aaa", 3, 0), ("a.aa", 1, 2), ("aaaa", 4, 0)):
            self.assertEqual(measured(card, row, "left", board="ring"), left, row)
            self.assertEqual(measured(card, row, "worth", board="ring"), left, row)
            self.assertEqual(measured(card, row, "long", board="ring"), long, row)

    def test_errors_and_their_order(self):
        card = Card.read("a=1: aa.=..a")
        for measure in ("Left", "", "longest", "left "):
            self.fails(InvalidMeasure, "measure", measure, measured, card, "aa.", measure)
            self.fails(InvalidRow, "row", "ab", measured, card, "ab", measure)
            self.fails(InvalidBoard, "board", "b", measured, card, "ab", measure, board="b")
            self.fails(InvalidBoard, "board", "b", measured, card, "aa.", measure, board="b")
        self.fails(InvalidRow, "row", "aB", measured, card, "aB", "left")
        self.assertEqual([measured(card, "#:Aa", "left"), measured(card, "#Aa", "left")], [1, 2])
