from leapcard.cards import Card
from leapcard.errors import InvalidBoard, InvalidRow, NoJump
from leapcard.steps import after_move, apart, is_stuck, moves, next_rows, previous_rows
from tests.helpers import LeapTest, plain_after, plain_moves, rows_of, rows_up_to

SOLO = Card.read("a=1: aa.=..a")
MIXED = Card.read("a=1 b=2: ab.=..a aab.>...b bb.<.aa bba.>...b ab.=...")
BOARDS = ("row", "ring")


class MovesTest(LeapTest):
    def test_examples(self):
        self.assertEqual(moves(SOLO, "aa.aa"), [(0, 0), (2, 1)])
        self.assertEqual(after_move(SOLO, "a..a", (3, 0), board="ring"), ".a..")

    def test_every_short_row(self):
        for card, signs, most in ((SOLO, "#.a", 6), (SOLO, ".:Aa", 5), (MIXED, ".ab", 6), (MIXED, "#.:Bab", 4)):
            for row in rows_up_to(signs, most):
                for board in BOARDS:
                    found = moves(card, row, board=board)
                    self.assertEqual(found, plain_moves(card, row, board), (row, board))
                    afters = [after_move(card, row, move, board=board) for move in found]
                    self.assertEqual(afters, [plain_after(card, row, move) for move in found])
                    self.assertEqual(next_rows(card, row, board=board), sorted(set(afters)))
                    self.assertIs(is_stuck(card, row, board=board), found == [])

    def test_previous_rows(self):
        for card, signs, length in ((SOLO, "#.:Aa", 4), (MIXED, ".ab", 5), (MIXED, ".:ABab", 4), (SOLO, ".a", 2)):
            for board in BOARDS:
                befores = {}
                for row in rows_of(signs, length):
                    for after in next_rows(card, row, board=board):
                        befores.setdefault(after, []).append(row)
                for row in rows_of(signs, length):
                    self.assertEqual(previous_rows(card, row, board=board), befores.get(row, []))

    def test_rows_come_once(self):
        card = Card.read("a=1: aa.>... aaa.>....")
        self.assertEqual(moves(card, "aaa.aaa."), [(0, 1), (1, 0), (4, 1), (5, 0)])
        card = Card.read("a=1 b=1: aa.>... ab.>...")
        self.assertEqual(next_rows(card, "aa."), ["..."])
        self.assertEqual(previous_rows(card, "..."), ["aa.", "ab."])

    def test_empty_row(self):
        for board in BOARDS:
            self.assertEqual(moves(SOLO, "", board=board), [])
            self.assertEqual(next_rows(SOLO, "", board=board), [])
            self.assertEqual(previous_rows(SOLO, "", board=board), [])
            self.assertIs(is_stuck(SOLO, "", board=board), True)
            self.assertIs(apart(SOLO, "", (0, 0), (1, 0), board=board), False)

    def test_card_without_jumps(self):
        self.assertEqual(moves(Card.read("a=1:"), "aa."), [])
        self.assertEqual(previous_rows(Card.read("a=1:"), "..a"), [])

    def test_sixty_signs(self):
        row = "aa." * 20
        found = moves(SOLO, row)
        self.assertEqual(found, plain_moves(SOLO, row, "row"))
        self.assertEqual(len(found), 39)
        self.assertEqual(len(moves(SOLO, row, board="ring")), 40)
        self.assertEqual(after_move(SOLO, row, (59, 1), board="ring"), ".." + row[2:59] + "a")

    def test_walls_and_marks(self):
        self.assertEqual(moves(SOLO, "a#a.a#a.#a"), [])
        self.assertEqual(moves(SOLO, "AA:"), [(0, 0)])
        self.assertEqual(after_move(SOLO, "Aa:", (0, 0)), ":.A")
        self.assertEqual(after_move(SOLO, "aA.", (0, 0)), ".:a")
        self.assertEqual(after_move(MIXED, "#AAB:#", (1, 2)), "#:::B#")
        self.assertEqual(after_move(SOLO, "A.#a", (3, 0), board="ring"), ":a#.")

    def test_windows_over_the_end_of_a_ring(self):
        card = Card.read("a=1: aaa.=...a")
        self.assertEqual(moves(card, "aa.a", board="ring"), [(2, 1), (3, 0)])
        self.assertEqual(moves(card, "aa.a"), [])
        self.assertEqual(after_move(card, "aa.a", (3, 0), board="ring"), "..a.")
        self.assertEqual(after_move(card, "aa.a", (2, 1), board="ring"), "..a.")
        self.assertEqual(after_move(card, "Aa:a", (3, 0), board="ring"), ":.A.")

    def test_rings_shorter_than_a_window(self):
        card = Card.read("a=1: aa.=..a aaa.=...a")
        for row in rows_up_to(".a", 2):
            self.assertEqual(moves(card, row, board="ring"), [])
            self.assertEqual(previous_rows(card, row, board="ring"), [])
        self.assertEqual(moves(card, "aa.", board="ring"), [(0, 0), (2, 1)])
        self.assertEqual(moves(card, "aa.", board="ring"), plain_moves(card, "aa.", "ring"))
        self.assertEqual(previous_rows(card, "a..", board="ring"), [".aa"])

    def test_tuples_that_are_no_move(self):
        for board in BOARDS:
            for move in ((), (0,), (0, 0, 0), (-1, 0), (-5, 0), (5, 0), (0, -2), (0, 2), (1, 0), (0, 1), ("0", 0),
                         (0, "a"), (0, None), (10**30, 0), ((0, 0), 0)):
                self.fails(NoJump, "index", 0, after_move, SOLO, "aa.a#", move, board=board)
                self.assertIs(apart(SOLO, "aa.a#", move, (0, 0), board=board), False)
                self.assertIs(apart(SOLO, "aa.a#", (0, 0), move, board=board), False)
        # a place that only the circle has, and a place beyond the row that means the same place
        self.fails(NoJump, "index", 0, after_move, SOLO, "a..a", (3, 0))
        self.fails(NoJump, "index", 0, after_move, SOLO, "a..a", (-1, 0), board="ring")
        self.fails(NoJump, "index", 0, after_move, SOLO, "a..a", (7, 0), board="ring")

    def test_apart(self):
        self.assertIs(apart(SOLO, "aa.aa.", (0, 0), (3, 0)), True)
        self.assertIs(apart(SOLO, "aa.aa.", (0, 0), (2, 1)), False)
        self.assertIs(apart(SOLO, "aa.aa.", (0, 0), (0, 0)), False)
        self.assertIs(apart(SOLO, "aa..aa", (0, 0), (3, 1)), True)
        self.assertIs(apart(SOLO, "a.aa.a", (5, 0), (2, 0), board="ring"), True)
        self.assertIs(apart(SOLO, "a.aa.a", (5, 0), (1, 1), board="ring"), False)
        self.assertIs(apart(SOLO, "a.aa.a", (5, 0), (4, 1), board="ring"), False)

    def test_moves_that_are_apart_can_be_made_in_either_order(self):
        wide = Card.read("a=1: aa.=..a aaa.=...a")
        for card, length in ((SOLO, 7), (wide, 8), (wide, 4)):
            for row in rows_of(".a", length):
                for board in BOARDS:
                    found = moves(card, row, board=board)
                    for first in found:
                        for second in found:
                            self.check_apart(card, row, board, first, second)

    def check_apart(self, card, row, board, first, second):
        windows = [{(place + i) % len(row) for i in range(len(card.pairs[pair][0]))} for place, pair in (first, second)]
        told = apart(card, row, first, second, board=board)
        self.assertIs(told, not windows[0] & windows[1], (row, board, first, second))
        if told:
            one = after_move(card, after_move(card, row, first, board=board), second, board=board)
            two = after_move(card, after_move(card, row, second, board=board), first, board=board)
            self.assertEqual(one, two)


class WrongInputsTest(LeapTest):
    CALLS = ((moves,), (next_rows,), (previous_rows,), (is_stuck,), (after_move, (9, 9)), (apart, (9, 9), (8, 8)))

    def test_boards(self):
        for call, *rest in self.CALLS:
            for board in ("", "Row", "rings", "row ", "line"):
                self.fails(InvalidBoard, "board", board, call, SOLO, "aa.", *rest, board=board)

    def test_the_board_is_named(self):
        self.assertRaises(TypeError, moves, SOLO, "aa.", "row")

    def test_rows(self):
        for call, *rest in self.CALLS:
            for row in ("b", "aB.", "x", "aa. ", "aa.\n"):
                for board in BOARDS:
                    self.fails(InvalidRow, "row", row, call, SOLO, row, *rest, board=board)

    def test_board_then_row_then_move(self):
        for call, *rest in self.CALLS:
            self.fails(InvalidBoard, "board", "x", call, SOLO, "x", *rest, board="x")
        self.fails(InvalidRow, "row", "x", after_move, SOLO, "x", (7, 7))
        self.fails(NoJump, "index", 0, after_move, SOLO, "a", (7, 7))

    def test_returned_lists_are_new(self):
        for call in (moves, next_rows, previous_rows):
            told = call(SOLO, "aa...a")
            told.append("x")
            self.assertNotIn("x", call(SOLO, "aa...a"))
