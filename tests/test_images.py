from leapcard.cards import Card
from leapcard.errors import InvalidBoard, Unlike
from leapcard.images import rows_after, rows_before, stuck_rows
from leapcard.machine import Machine
from leapcard.patterns import pattern
from tests.helpers import LeapTest, plain_moves, plain_next, rows_up_to
from tests.test_configs import some_cases


class ImagesTest(LeapTest):
    def test_all_short_rows(self):
        for card, machine in some_cases():
            rows = rows_up_to(machine.signs, {2: 8, 3: 6, 4: 5, 5: 4}.get(len(machine.signs), 3))
            for board in ("row", "ring"):
                before = rows_before(card, machine, board=board)
                after = rows_after(card, machine, board=board)
                stuck = stuck_rows(card, machine.signs, board=board)
                led = {end for row in rows if row in machine for end in plain_next(card, row, board)}
                for row in rows:
                    where = (str(card), board, row)
                    self.assertEqual(row in before, any(end in machine for end in plain_next(card, row, board)), where)
                    self.assertEqual(row in after, row in led, where)
                    self.assertEqual(row in stuck, plain_moves(card, row, board) == [], where)
                for found in (before, after, stuck):
                    self.assertEqual(found.signs, machine.signs)
                    self.assertEqual(found, found.least())

    def test_the_row_is_the_first_board(self):
        card = Card.read("a=1: aa.=..a")
        machine = pattern("_*a_*", ".a")
        self.assertEqual(rows_before(card, machine), rows_before(card, machine, board="row"))
        self.assertEqual(rows_after(card, machine), rows_after(card, machine, board="row"))
        self.assertEqual(stuck_rows(card, ".a"), stuck_rows(card, ".a", board="row"))
        self.assertNotEqual(stuck_rows(card, ".a"), stuck_rows(card, ".a", board="ring"))

    def test_windows_over_the_end_of_a_ring(self):
        card = Card.read("a=1: aa.>..a")
        before = rows_before(card, Machine.of_rows(".a", [".a.", "....a"]), board="ring")
        self.assertEqual([row for row in rows_up_to(".a", 6) if row in before], ["a.a", "..aa."])
        after = rows_after(card, Machine.of_rows(".a", ["a..a", "aa", "a.", "a.a"]), board="ring")
        self.assertEqual([row for row in rows_up_to(".a", 6) if row in after], [".a.", ".a.."])

    def test_rings_shorter_than_a_window(self):
        card = Card.read("a=1: aaa.=...a")
        stuck = stuck_rows(card, ".a", board="ring")
        for row in rows_up_to(".a", 3):
            self.assertTrue(row in stuck)
        self.assertFalse("aa.a" in stuck)

    def test_a_card_without_jumps(self):
        card = Card.read("a=1:")
        for board in ("row", "ring"):
            self.assertEqual(rows_before(card, Machine.everything("#.a"), board=board), Machine.nothing("#.a"))
            self.assertEqual(rows_after(card, Machine.everything("#.a"), board=board), Machine.nothing("#.a"))
            self.assertEqual(stuck_rows(card, "#.a", board=board), Machine.everything("#.a"))

    def test_the_empty_row(self):
        card = Card.read("a=1: aa.=..a")
        for board in ("row", "ring"):
            self.assertFalse("" in rows_before(card, Machine.everything(".a"), board=board))
            self.assertTrue("" in stuck_rows(card, ".a", board=board))

    def test_errors(self):
        card = Card.read("a=1: aa.=..a")
        for signs in (".", "a", ".ab", "#a", ".Aa", ".:a"):
            machine = Machine.everything(signs)
            for board in ("row", "ring"):
                self.fails(Unlike, "signs", signs, rows_before, card, machine, board=board)
                self.fails(Unlike, "signs", signs, rows_after, card, machine, board=board)
                self.fails(Unlike, "signs", signs, stuck_rows, card, signs, board=board)
            for call, given in ((rows_before, machine), (rows_after, machine), (stuck_rows, signs)):
                self.fails(InvalidBoard, "board", "circle", call, card, given, board="circle")
        for signs in ("", "a.", "..a", "xyz", ".a "):
            self.fails(Unlike, "signs", signs, stuck_rows, card, signs)
            self.fails(InvalidBoard, "board", "", stuck_rows, card, signs, board="")
