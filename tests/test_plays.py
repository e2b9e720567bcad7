from leapcard.cards import Card
from leapcard.errors import InvalidBoard, InvalidRow, NoJump
from leapcard.plays import is_play, replay
from tests.helpers import LeapTest, plain_plays, rows_of

SOLO = Card.read("a=1: aa.=..a")


class PlaysTest(LeapTest):
    def test_replay(self):
        self.assertEqual(replay(SOLO, "aa.a.", [(0, 0), (2, 0)]), ["aa.a.", "..aa.", "....a"])
        self.assertEqual(replay(SOLO, "aa.a.", ((0, 0),)), ["aa.a.", "..aa."])
        self.assertEqual(replay(SOLO, "aA:", [(0, 0)]), ["aA:", ".:A"])

    def test_empty_play(self):
        for row in ("", "aa.", "#"):
            self.assertEqual(replay(SOLO, row, []), [row])
            self.assertIs(is_play(SOLO, row, [], row), True)
        self.assertIs(is_play(SOLO, "aa.", [], "..a"), False)

    def test_faulty_moves(self):
        good = [(0, 0), (2, 0), (4, 0)]
        row = "aa.a.a."
        self.assertEqual(replay(SOLO, row, good)[-1], "......a")
        for at in (0, 1, 2):
            for bad in ((0, 1), (-1, 0), (7, 0), (0, 2), (0,), (), (0, 0, 0)):
                play = list(good)
                play[at] = bad
                self.fails(NoJump, "index", at, replay, SOLO, row, play)
                self.assertIs(is_play(SOLO, row, play, "......a"), False)
        self.fails(NoJump, "index", 3, replay, SOLO, row, good + [(6, 0)])
        self.fails(NoJump, "index", 0, replay, SOLO, row, [(1, 0), (1, 0)])
        self.fails(NoJump, "index", 1, replay, SOLO, row, [(0, 0), (9, 9), (9, 9)])
        self.assertIs(is_play(SOLO, row, good + [(6, 0)], "......a"), False)
        self.assertEqual(good, [(0, 0), (2, 0), (4, 0)])

    def test_ring(self):
        self.assertEqual(replay(SOLO, "a..a", [(3, 0)], board="ring"), ["a..a", ".a.."])
        self.fails(NoJump, "index", 0, replay, SOLO, "a..a", [(3, 0)])
        self.assertIs(is_play(SOLO, "a..a", [(3, 0)], ".a..", board="ring"), True)
        self.assertIs(is_play(SOLO, "a..a", [(3, 0)], ".a.."), False)

    def test_every_play_of_short_rows(self):
        for board in ("row", "ring"):
            for row in rows_of(".a", 6):
                for play, end in plain_plays(SOLO, row, board):
                    self.assertEqual(replay(SOLO, row, play, board=board)[-1], end)
                    self.assertEqual(len(replay(SOLO, row, play, board=board)), len(play) + 1)
                    self.assertIs(is_play(SOLO, row, play, end, board=board), True)
                    self.assertIs(is_play(SOLO, row, play, end + ".", board=board), False)

    def test_order_of_errors(self):
        self.fails(InvalidBoard, "board", "x", replay, SOLO, "b", [()], board="x")
        self.fails(InvalidRow, "row", "b", replay, SOLO, "b", [()])
        self.fails(InvalidBoard, "board", "x", is_play, SOLO, "b", [()], "c", board="x")
        self.fails(InvalidRow, "row", "b", is_play, SOLO, "b", [()], "c")
        self.fails(InvalidRow, "row", "c", is_play, SOLO, "a", [()], "c")
        self.assertIs(is_play(SOLO, "a", [()], "a"), False)
        self.assertIs(is_play(SOLO, "aa.", [(0, 0)], "A" * 9 + "#:"), False)
