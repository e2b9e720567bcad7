from leapcard.cards import Card
from leapcard.errors import InvalidBoard, InvalidRow, TooMany
from leapcard.reach import (count_full, ends, fewest_left, find_play, least_worth, longest_full, reached, shortest_full,
                            surely_free)
from tests.helpers import LeapTest, plain_moves, plain_plays, rows_of

SOLO = Card.read("a=1: aa.=..a")
MIXED = Card.read("a=2 b=3: ab.=..a aab.>...b bb.>.aa bba.<...b aa.<..b ab.>...")
CALLS = (reached, ends, fewest_left, least_worth, shortest_full, longest_full, count_full, surely_free)
CASES = ((SOLO, "row", rows_of(".a", 7)), (SOLO, "ring", rows_of(".a", 6)), (SOLO, "row", rows_of("#.:Aa", 4)),
         (MIXED, "row", rows_of(".ab", 5)), (MIXED, "ring", rows_of(".ab", 5)), (MIXED, "ring", rows_of(".:Bb", 4)))


class ReachTest(LeapTest):
    def each_case(self):
        for card, board, rows in CASES:
            for row in rows:
                plays = plain_plays(card, row, board)
                full = [play for play, end in plays if plain_moves(card, end, board) == []]
                yield card, row, board, plays, full

    def test_reached_rows(self):
        for card, row, board, plays, _ in self.each_case():
            rows = sorted({end for _, end in plays})
            stuck = [end for end in rows if plain_moves(card, end, board) == []]
            self.assertEqual(reached(card, row, board=board), rows)
            self.assertEqual(ends(card, row, board=board), stuck)
            self.assertEqual(fewest_left(card, row, board=board),
                             min(len([sign for sign in end if sign in "abAB"]) for end in rows))
            self.assertEqual(least_worth(card, row, board=board), min(card.worth(end) for end in rows))
            self.assertEqual(surely_free(card, row, board=board),
                             [at for at in range(len(row)) if all(end[at] in ".:" for end in stuck)])

    def test_full_plays(self):
        for card, row, board, _, full in self.each_case():
            shortest = min(len(play) for play in full)
            longest = max(len(play) for play in full)
            self.assertEqual(shortest_full(card, row, board=board),
                             min(play for play in full if len(play) == shortest))
            self.assertEqual(longest_full(card, row, board=board), min(play for play in full if len(play) == longest))
            self.assertEqual(count_full(card, row, board=board), len(full))

    def test_find_play(self):
        for card, row, board, plays, _ in self.each_case():
            for goals in ([plays[-1][1]], sorted({end for _, end in plays})[:3], ["." * len(row)], [row]):
                fitting = [play for play, end in plays if end in goals]
                shortest = min((len(play) for play in fitting), default=0)
                first = min((play for play in fitting if len(play) == shortest), default=None)
                self.assertEqual(find_play(card, row, goals, board=board), first)

    def test_goals_that_no_play_leads_to(self):
        strange = ["", "xyz", "aa.a", "d" * 61, "A:", "..A"]
        self.assertIsNone(find_play(SOLO, "aa.", strange))
        self.assertIsNone(find_play(SOLO, "aa.", []))
        self.assertEqual(find_play(SOLO, "aa.", strange + ["..a"]), [(0, 0)])
        self.assertEqual(find_play(SOLO, "aa.", ("..a", "aa.")), [])
        self.assertEqual(find_play(SOLO, "", [""]), [])

    def test_the_first_one_of_several_plays(self):
        row = "aa..aa..aa.."
        self.assertEqual(find_play(SOLO, row, ["..a...a...a."]), [(0, 0), (4, 0), (8, 0)])
        self.assertEqual(shortest_full(SOLO, "aa.aa"), find_play(SOLO, "aa.aa", ends(SOLO, "aa.aa")))
        self.assertEqual(shortest_full(SOLO, row)[0], (0, 0))
        self.assertEqual(longest_full(SOLO, ".aa."), [(0, 1)])
        self.assertEqual(shortest_full(SOLO, ".aa."), [(0, 1)])

    def test_empty_row(self):
        self.assertEqual([call(SOLO, "") for call in CALLS], [[""], [""], 0, 0, [], [], 1, []])
        self.assertEqual([call(SOLO, "", board="ring") for call in CALLS], [[""], [""], 0, 0, [], [], 1, []])

    def test_surely_free(self):
        self.assertEqual(surely_free(SOLO, ":.#aA:"), [0, 1, 3, 4])
        self.assertEqual(surely_free(SOLO, "#.:a"), [1, 2])
        self.assertEqual(surely_free(SOLO, ".aa."), [1, 2])

    def test_long_rows(self):
        row = "aa.#" * 12 + "#" * 12
        self.assertEqual(len(reached(SOLO, row)), 4096)
        self.assertEqual(count_full(SOLO, row), 479001600)
        self.assertEqual(longest_full(SOLO, row), [(place, 0) for place in range(0, 48, 4)])
        self.assertEqual(ends(SOLO, row), ["..a#" * 12 + "#" * 12])


class LimitTest(LeapTest):
    def test_limits(self):
        for row in ("", "aa.", "aa.aa.aa", "aa.#aa.#aa.", "a#a"):
            for board in ("row", "ring"):
                count = len(reached(SOLO, row, board=board))
                for call in CALLS:
                    call(SOLO, row, board=board, limit=count)
                    for limit in {count - 1, count // 2, 0}:
                        self.fails(TooMany, "limit", limit, call, SOLO, row, board=board, limit=limit)
                for goals in ([row], [], ["x"]):
                    find_play(SOLO, row, goals, board=board, limit=count)
                    for limit in {count - 1, 0}:
                        self.fails(TooMany, "limit", limit, find_play, SOLO, row, goals, board=board, limit=limit)

    def test_the_usual_limit(self):
        row = "aa.#" * 14
        self.assertEqual(len(reached(SOLO, row, limit=16384)), 16384)
        for call in CALLS:
            self.fails(TooMany, "limit", 20000, call, SOLO, row + "aa.")
        self.fails(TooMany, "limit", 20000, find_play, SOLO, row + "aa.", [row + "aa."])

    def test_order_of_errors(self):
        for call, *rest in [(call,) for call in CALLS] + [(find_play, [])]:
            self.fails(InvalidBoard, "board", "x", call, SOLO, "b", *rest, board="x", limit=0)
            self.fails(InvalidRow, "row", "b", call, SOLO, "b", *rest, limit=0)
            self.fails(InvalidRow, "row", "aa. ", call, SOLO, "aa. ", *rest, limit=0)
            self.fails(TooMany, "limit", 0, call, SOLO, "a", *rest, limit=0)
