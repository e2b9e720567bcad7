from random import Random

from leapcard.cards import Card
from leapcard.desk import Desk
from leapcard.errors import InvalidOption, InvalidRow, NoJump, NothingLeft, OverQuota
from leapcard.guide import Guide
from leapcard.jumps import Jump
from leapcard.machine import Machine
from leapcard.targets import AtMost, OnePeg, PegAt
from tests.helpers import LeapTest, plain_after, plain_hope, plain_moves

RIGHT = Card.read("a=1: aa.>..a")
GUIDE = Guide.of(RIGHT, OnePeg().lot_over(".a"))
RING = Guide.of(RIGHT, OnePeg().lot_over(".a"), board="ring", most=27)
MARKED = Guide.of(RIGHT, PegAt().lot_over("#.:Aa"))
TWO = Guide.of(Card.read("a=1 b=1: ab.=..b ba.>.b."), AtMost(1, "b").lot_over(".ab"), most=40)


class PlainDesk:
    """A plain history of the moves made."""

    def __init__(self, guide, row, quota):
        self.guide, self.row, self.quota, self.made, self.undone = guide, row, quota, [], []

    def rows(self):
        rows = [self.row]
        for move in self.made:
            rows.append(plain_after(self.guide.card, rows[-1], move))
        return rows

    def hopes(self):
        return [plain_hope(self.guide.card, row, self.guide.lot, self.guide.board) for row in self.rows()]

    def moves(self):
        return plain_moves(self.guide.card, self.rows()[-1], self.guide.board)

    def keeping(self):
        card, lot, board = self.guide.card, self.guide.lot, self.guide.board
        return [move for move in self.moves() if plain_hope(card, plain_after(card, self.rows()[-1], move), lot, board)]

    def lost_at(self):
        hopes = self.hopes()
        return next((at for at in range(len(self.made)) if hopes[at] and not hopes[at + 1]), None)

    def lines(self):
        texts = []
        for number, (row, hope) in enumerate(zip(self.rows(), self.hopes())):
            place, pair = self.made[number - 1] if number else ("", "")
            texts.append(str(number).rjust(3) + " " + str(place).rjust(4) + " " + str(pair).rjust(4) + " " + row
                         + (" +" if hope else " -"))
        return texts


class DeskTest(LeapTest):
    def same(self, desk, plain):
        """A desk is in the state that a plain history tells."""
        rows, hopes = plain.rows(), plain.hopes()
        self.assertEqual((desk.present, desk.played, desk.quota, desk.moves_left, len(desk)),
                         (rows[-1], plain.made, plain.quota, plain.quota - len(plain.made), len(plain.made)))
        self.assertEqual((desk.moves(), desk.keeping()), (plain.moves(), plain.keeping()))
        self.assertIs(desk.has_hope(), hopes[-1])
        self.assertEqual(desk.lost_at(), plain.lost_at())
        self.assertEqual(desk.lines(), plain.lines())
        twin = desk.twin()
        for move in reversed(plain.undone[-desk.moves_left:] if desk.moves_left else []):
            twin.again()
            self.assertEqual(twin.played[-1], move)

    def check_error(self, state, error, attribute, value, call, *args):
        """The call raises the error, and nothing has changed."""
        desk, plain = state
        self.fails(error, attribute, value, call, *args)
        self.same(desk, plain)

    def test_example(self):
        card = Card.read("a=1: aa.>..a")
        desk = Desk(Guide.of(card, OnePeg().lot_over(".a")), "aa.a.")
        self.assertEqual(desk.finish(), [(0, 0), (2, 0)])
        self.assertEqual(desk.lines(), ["  0           aa.a. +", "  1    0    0 ..aa. +", "  2    2    0 ....a +"])

    def test_against_a_plain_history(self):
        random = Random(45)
        for guide in (GUIDE, RING, MARKED, TWO):
            signs = guide.machine.signs + guide.machine.signs[-1] * 2
            for _ in range(12):
                row = "".join(random.choice(signs) for _ in range(random.randrange(5, 9)))
                quota = random.choice((0, 1, 2, 60))
                desk, plain = Desk(guide, row, quota=quota), PlainDesk(guide, row, quota)
                self.same(desk, plain)
                for _ in range(25):
                    self.one_call(random, desk, plain)
                    self.same(desk, plain)

    def one_call(self, random, desk, plain):
        state, word = (desk, plain), random.choice(("do", "do", "do", "again", "back", "finish", "quota"))
        if word == "do":
            self.one_do(state, [random.choice(plain.moves() or [(0, 9)]) for _ in range(random.randrange(3))])
        elif word == "back":
            count = random.randrange(3)
            if count > len(plain.made):
                self.check_error(state, NothingLeft, "count", count, desk.back, count)
            else:
                self.assertIsNone(desk.back(count))
                for _ in range(count):
                    plain.undone.append(plain.made.pop())
        elif word == "again":
            count = random.randrange(3)
            if count > len(plain.undone):
                self.check_error(state, NothingLeft, "count", count, desk.again, count)
            elif len(plain.made) + count > plain.quota:
                self.check_error(state, OverQuota, "number", plain.quota, desk.again, count)
            else:
                self.assertIsNone(desk.again(count))
                for _ in range(count):
                    plain.made.append(plain.undone.pop())
        elif word == "finish":
            play = plain.guide.to_lot(desk.present)
            if play is not None and len(plain.made) + len(play) > plain.quota:
                self.check_error(state, OverQuota, "number", plain.quota, desk.finish)
            else:
                self.assertEqual(desk.finish(), play)
                plain.made += play or []
                plain.undone = [] if play else plain.undone
        else:
            number = random.choice((-1, 0, 1, 2, 3, 60, 1001))
            if len(plain.made) <= number <= 1000:
                desk.quota = number
                plain.quota = number
            else:
                self.check_error(state, OverQuota, "number", number, desk.change, "quota", number)

    def one_do(self, state, moves):
        desk, plain = state
        made = list(plain.made)
        for index, move in enumerate(moves):
            if len(plain.made) == plain.quota or move not in plain.moves():
                is_over = len(plain.made) == plain.quota
                plain.made = made
                if is_over:
                    self.check_error(state, OverQuota, "number", plain.quota, desk.do, *moves)
                else:
                    self.check_error(state, NoJump, "index", index, desk.do, *moves)
                return
            plain.made = plain.made + [move]
        self.assertIsNone(desk.do(*moves))
        if moves:
            plain.undone = []

    def test_errors_of_the_class(self):
        for row in ("b", "#", "A", "ax"):
            for quota in (60, -1, 1001):
                self.fails(InvalidRow, "row", row, Desk, GUIDE, row, quota=quota)
        for quota in (-1, -60, 1001, 10 ** 29):
            self.fails(OverQuota, "number", quota, Desk, GUIDE, "aa.", quota=quota)
        for quota in (0, 1, 1000):
            self.assertEqual(Desk(GUIDE, "aa.", quota=quota).quota, quota)
        self.assertEqual((Desk(GUIDE, "").quota, Desk(GUIDE, "").moves_left, Desk(GUIDE, "").present), (60, 60, ""))

    def test_quota(self):
        desk = Desk(GUIDE, "aa.aa.aa.")
        desk.do((0, 0), (3, 0))
        plain = PlainDesk(GUIDE, "aa.aa.aa.", 60)
        plain.made = [(0, 0), (3, 0)]
        for number in (-1, 0, 1, 1001, 10 ** 29):
            with self.assertRaises(OverQuota) as caught:
                desk.quota = number
            self.assertEqual(vars(caught.exception), {"number": number})
            self.check_error((desk, plain), OverQuota, "number", number, desk.change, "quota", number)
        for number in (2, 1000, 3):
            desk.quota = number
            self.assertEqual((desk.quota, desk.moves_left), (number, number - 2))
            self.assertIsNone(desk.change("quota", number))
            self.assertEqual(desk.quota, number)

    def test_other_options(self):
        desk = Desk(GUIDE, "aa.")
        for name in ("Quota", "", "row", "present", "moves_left"):
            for number in (5, -1, 1001):
                self.fails(InvalidOption, "name", name, desk.change, name, number)
        self.assertEqual(desk.quota, 60)

    def test_do(self):
        row = "aa.a.aa."
        desk, plain = Desk(GUIDE, row), PlainDesk(GUIDE, row, 60)
        state = desk, plain
        self.check_error(state, NoJump, "index", 0, desk.do, (1, 0), (0, 0))
        self.check_error(state, NoJump, "index", 1, desk.do, (0, 0), (0, 0))
        self.check_error(state, NoJump, "index", 2, desk.do, (0, 0), (5, 0), (9, 9), (2, 0))
        for move in ((-8, 0), (8, 0), (0, 1), (0, -1), (3, 0)):
            self.check_error(state, NoJump, "index", 0, desk.do, move)
        self.assertIsNone(desk.do())
        self.assertIsNone(desk.do((0, 0), (5, 0)))
        plain.made = [(0, 0), (5, 0)]
        self.same(desk, plain)

    def test_do_at_the_quota(self):
        desk, plain = Desk(GUIDE, "aa.a.", quota=1), PlainDesk(GUIDE, "aa.a.", 1)
        state = desk, plain
        self.check_error(state, OverQuota, "number", 1, desk.do, (0, 0), (2, 0))
        # a move beyond the quota that cannot be made either
        self.check_error(state, OverQuota, "number", 1, desk.do, (0, 0), (0, 0))
        # the first move with a fault decides
        self.check_error(state, NoJump, "index", 0, desk.do, (1, 0), (2, 0))
        self.assertIsNone(desk.do((0, 0)))
        plain.made = [(0, 0)]
        self.check_error(state, OverQuota, "number", 1, desk.do, (2, 0))
        self.check_error(state, OverQuota, "number", 1, desk.do, (9, 9))
        self.assertIsNone(desk.do())
        desk.quota = plain.quota = 2
        desk.do((2, 0))
        plain.made.append((2, 0))
        self.same(desk, plain)
        desk = Desk(GUIDE, "aa.", quota=0)
        self.fails(OverQuota, "number", 0, desk.do, (0, 0))
        self.fails(OverQuota, "number", 0, desk.finish)

    def test_back_and_again(self):
        desk, plain = Desk(GUIDE, "aa.a.aa."), PlainDesk(GUIDE, "aa.a.aa.", 60)
        state = desk, plain
        moves = [(0, 0), (2, 0), (5, 0)]
        desk.do(*moves)
        for count in (4, 5, 60):
            plain.made = list(moves)
            self.check_error(state, NothingLeft, "count", count, desk.back, count)
            self.check_error(state, NothingLeft, "count", 1, desk.again)
        desk.back(0)
        desk.again(0)
        self.same(desk, plain)
        desk.back()
        desk.back(2)
        plain.made, plain.undone = [], moves[::-1]
        self.same(desk, plain)
        self.check_error(state, NothingLeft, "count", 4, desk.again, 4)
        self.check_error(state, NothingLeft, "count", 1, desk.back)
        desk.again()
        plain.made, plain.undone = moves[:1], moves[:0:-1]
        self.same(desk, plain)
        desk.again(2)
        plain.made, plain.undone = moves, []
        self.same(desk, plain)

    def test_again_after_an_error_and_after_nothing(self):
        desk = Desk(GUIDE, "aa.a.aa.")
        desk.do((0, 0), (5, 0))
        desk.back(2)
        self.fails(NoJump, "index", 1, desk.do, (5, 0), (5, 0))
        self.fails(NothingLeft, "count", 3, desk.again, 3)
        self.fails(OverQuota, "number", -1, desk.change, "quota", -1)
        desk.do()
        desk.back(0)
        desk.again(1)
        self.assertEqual(desk.played, [(0, 0)])
        desk.again()
        self.assertEqual(desk.played, [(0, 0), (5, 0)])
        desk.back(2)
        desk.do((5, 0))
        self.fails(NothingLeft, "count", 1, desk.again)

    def test_again_over_the_quota(self):
        desk = Desk(GUIDE, "aa.a.aa.")
        desk.do((0, 0), (2, 0), (5, 0))
        desk.back(2)
        desk.quota = 2
        self.fails(NothingLeft, "count", 3, desk.again, 3)
        self.fails(OverQuota, "number", 2, desk.again, 2)
        self.assertEqual(desk.played, [(0, 0)])
        desk.again()
        self.fails(OverQuota, "number", 2, desk.again)
        desk.again(0)
        desk.quota = 3
        desk.again()
        self.assertEqual(desk.played, [(0, 0), (2, 0), (5, 0)])

    def test_finish(self):
        desk = Desk(GUIDE, "aa.a.")
        desk.do((0, 0))
        desk.back()
        self.assertEqual(desk.finish(), [(0, 0), (2, 0)])
        self.fails(NothingLeft, "count", 1, desk.again)
        desk.back()
        # the row is not in the lot, and then it is
        self.assertEqual(desk.finish(), [(2, 0)])
        self.assertEqual(desk.finish(), [])
        desk.back(2)
        desk.again(1)
        self.assertEqual(desk.present, "..aa.")
        # without hope nothing happens
        desk = Desk(GUIDE, "aa.a")
        desk.do((0, 0))
        desk.back()
        self.assertIsNone(desk.finish())
        self.assertEqual(desk.present, "aa.a")
        desk.again()
        self.assertIsNone(desk.finish())
        desk = Desk(GUIDE, ".a.", quota=0)
        self.assertEqual(desk.finish(), [])

    def test_finish_in_the_lot_keeps_what_was_taken_back(self):
        desk = Desk(Guide.of(RIGHT, AtMost(2).lot_over(".a")), "aa.")
        desk.do((0, 0))
        desk.back()
        self.assertEqual(desk.finish(), [])
        desk.again()
        self.assertEqual(desk.played, [(0, 0)])

    def test_finish_beyond_the_quota(self):
        desk = Desk(GUIDE, "aa.a.", quota=1)
        desk.do((0, 0))
        desk.back()
        self.fails(OverQuota, "number", 1, desk.finish)
        self.assertEqual((desk.present, len(desk)), ("aa.a.", 0))
        desk.again()
        self.assertEqual(desk.present, "..aa.")

    def test_a_returned_play_may_be_changed(self):
        desk = Desk(GUIDE, "aa.a.")
        desk.finish().clear()
        desk.played.append((0, 0))
        desk.moves().append((0, 0))
        desk.lines().clear()
        self.assertEqual((desk.played, len(desk.lines())), ([(0, 0), (2, 0)], 3))

    def test_lost_at(self):
        desk = Desk(GUIDE, "aa.a.aa.")
        self.assertFalse(desk.has_hope())
        self.assertIsNone(desk.lost_at())
        row = "aaa.aa."
        both = Guide.of(Card.read("a=1: aa.=..a"), OnePeg().lot_over(".a"), most=18)
        for first in plain_moves(both.card, row, "row"):
            desk, plain = Desk(both, row), PlainDesk(both, row, 60)
            desk.do(first)
            plain.made = [first]
            self.same(desk, plain)

    def test_lines_with_two_digits(self):
        both = Guide.of(Card.read("a=1: aa.=..a"), OnePeg().lot_over(".a"), most=18)
        desk = Desk(both, "." * 10 + "a.aa")
        desk.do((11, 1), (10, 0))
        self.assertEqual(desk.lines(), ["  0           ..........a.aa +", "  1   11    1 ..........aa.. +",
                                        "  2   10    0 ............a. +"])
        desk.back()
        desk.do((9, 1))
        self.assertEqual(desk.lines()[2], "  2    9    1 .........a.... +")

    def test_lines_with_a_pair_of_two_digits(self):
        windows = [x + y for x in "abc" for y in "abcd"]
        card = Card([1, 1, 1, 1], [Jump(window + ".", "..a") for window in windows])
        guide = Guide.of(card, Machine.everything(".abcd"))
        desk = Desk(guide, "." * 20 + "cd.ab.", quota=1000)
        desk.do((20, 11), (23, 1))
        dots = "." * 20
        self.assertEqual(desk.lines(), [f"  0           {dots}cd.ab. +", f"  1   20   11 {dots}..aab. +",
                                        f"  2   23    1 {dots}..a..a +"])

    def test_twin(self):
        desk = Desk(GUIDE, "aa.a.aa.", quota=7)
        desk.do((0, 0), (2, 0), (5, 0))
        desk.back(2)
        twin = desk.twin()
        self.assertIsInstance(twin, Desk)
        self.assertEqual((twin.present, twin.played, twin.quota, twin.lines()),
                         (desk.present, desk.played, desk.quota, desk.lines()))
        twin.again(2)
        twin.quota = 3
        self.assertEqual((desk.played, desk.quota), ([(0, 0)], 7))
        desk.again()
        self.assertEqual((desk.played, twin.played), ([(0, 0), (2, 0)], [(0, 0), (2, 0), (5, 0)]))
        twin.back(3)
        desk.do((5, 0))
        self.assertEqual((twin.present, desk.present), ("aa.a.aa.", "....a..a"))
        twin.again(3)
        self.assertEqual(twin.played, [(0, 0), (2, 0), (5, 0)])
