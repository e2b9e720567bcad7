from leapcard.answers import Found, Parted
from leapcard.cards import Card
from leapcard.errors import InvalidBoard, InvalidMachine, InvalidRow, Unlike
from leapcard.learn import is_right, learn
from leapcard.machine import Machine
from leapcard.reach import surely_free
from leapcard.steps import is_stuck
from leapcard.sure import free_places, keep_lot, learn_free
from tests.helpers import LeapTest, marked_sign, rows_up_to

RIGHT = Card.read("a=1: aa.>..a")
TWO = Card.read("a=1 b=2: bb.=..a ab.>...")
BOARDS = ("row", "ring")


class KeepLotTest(LeapTest):
    def test_keep_lot(self):
        for card, most in ((RIGHT, 5), (Card.read("a=1:"), 4), (Card.read("a=1 b=2: bb.=..a aab.<...b"), 4)):
            for board in BOARDS:
                for walls in (False, True):
                    signs = card.sign_string(walls=walls, marks=True)
                    lot = keep_lot(card, signs, board=board)
                    self.assertEqual(lot.signs, signs)
                    self.assertEqual(lot, lot.least())
                    for row in rows_up_to(signs, most if len(signs) < 5 else 4):
                        marks = [sign for sign in row if sign in ":ABCD"]
                        wanted = len(marks) == 1 and marks[0] != ":" and is_stuck(card, row, board=board)
                        self.assertIs(row in lot, wanted, row)

    def test_errors(self):
        for signs in (".a", "#.a", ".:AB", ":A", "", "xyz", ".:ABab", ".:Aab"):
            self.fails(Unlike, "signs", signs, keep_lot, RIGHT, signs)
            self.fails(InvalidBoard, "board", "line", keep_lot, RIGHT, signs, board="line")


class LearnFreeTest(LeapTest):
    def test_answers(self):
        for card in (RIGHT, TWO, Card.read("a=1:"), Card.read("a=1: aa.=..a")):
            for walls in (False, True):
                for board in BOARDS:
                    answer = learn_free(card, walls=walls, board=board, most=20)
                    lot = keep_lot(card, card.sign_string(walls=walls, marks=True), board=board)
                    self.assertTrue(is_right(card, lot, answer, board=board, most=20))
                    if isinstance(answer, Found):
                        self.assertEqual(answer.machine, learn(card, lot, board=board, most=20).machine)
                        self.assertEqual(answer.machine, answer.machine.least())
        self.assertEqual(learn_free(RIGHT).machine.signs, ".:Aa")
        self.assertEqual(learn_free(RIGHT, walls=True).machine.signs, "#.:Aa")

    def test_most(self):
        self.assertIsInstance(learn_free(RIGHT, most=8), Found)
        answer = learn_free(RIGHT, most=7)
        self.assertIsInstance(answer, Parted)
        self.assertEqual(len(answer.rows), 8)
        self.assertEqual(len(learn_free(Card.read("a=1: aa.=..a")).rows), 13)

    def test_errors(self):
        self.fails(InvalidBoard, "board", "line", learn_free, RIGHT, board="line")


class FreePlacesTest(LeapTest):
    def test_with_a_learned_machine(self):
        for card, walls, board, most in ((RIGHT, False, "row", 8), (RIGHT, True, "row", 5), (TWO, False, "row", 5),
                                         (Card.read("a=1: aa.>.a."), False, "ring", 7), (Card.read("a=1:"), True, "ring", 4),
                                         (Card.read("a=1 b=1: ab.=..."), True, "row", 4)):
            machine = learn_free(card, walls=walls, board=board, most=40).machine
            for row in rows_up_to(card.sign_string(walls=walls), most):
                wanted = [place for place in surely_free(card, row, board=board) if row[place] != "#"]
                self.assertEqual(free_places(machine, row), wanted)

    def test_with_any_machine(self):
        machine = Machine.of_rows("#.:Aa", ["A", ":", "a:", "#A", "AA."])
        for row in rows_up_to("#.a", 3):
            wanted = [at for at, sign in enumerate(row)
                      if sign != "#" and row[:at] + marked_sign(sign) + row[at + 1:] not in machine]
            self.assertEqual(free_places(machine, row), wanted)

    def test_a_row_with_walls(self):
        machine = learn_free(RIGHT, walls=True).machine
        self.assertEqual(free_places(machine, "aa.#a.#aa"), [0, 1, 5])
        self.assertEqual(free_places(machine, "###"), [])
        self.assertEqual(free_places(machine, ""), [])

    def test_a_long_row(self):
        machine = learn_free(RIGHT).machine
        self.assertEqual(free_places(machine, "a" * 400), [])
        self.assertEqual(free_places(machine, "." * 400), list(range(400)))
        for length in (12, 400):
            row = "a" * (length - 1) + "."
            self.assertEqual(free_places(machine, row), [1] + list(range(2, length, 2)))
        self.assertEqual(surely_free(RIGHT, "a" * 11 + "."), [1, 2, 4, 6, 8, 10])

    def test_errors(self):
        for signs in (".a", "#.a"):
            for row in ("a", "x", ":"):
                self.fails(InvalidMachine, "part", "signs", free_places, Machine.everything(signs), row)
        machine = Machine.everything(".:Aa")
        for row in ("a:", "A", ":", "b", "#", "a#:", "ax"):
            self.fails(InvalidRow, "row", row, free_places, machine, row)
