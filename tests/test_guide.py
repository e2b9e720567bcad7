from leapcard.cards import Card
from leapcard.errors import InvalidBoard, InvalidRow, NoJump, NoMachine, NotExact, Unlike
from leapcard.guide import Guide
from leapcard.learn import learn
from leapcard.machine import Machine
from leapcard.patterns import pattern
from leapcard.targets import AtMost, OnePeg, PegAt
from tests.helpers import LeapTest, least_of, plain_after, plain_moves, plain_plays, plain_reached, rows_of, rows_up_to

RIGHT = Card.read("a=1: aa.>..a")
BOTH = Card.read("a=1: aa.=..a")
LOT = OnePeg().lot_over(".a")
EXACT = Machine.read(".a|0,1|2,3!|2,4!|1,4|4,4")


def some_guides():
    yield Guide(RIGHT, EXACT, LOT), 8
    yield Guide.of(RIGHT, LOT, board="ring", most=40), 7
    yield Guide.of(BOTH, OnePeg().lot_over("#.a"), most=40), 5
    yield Guide.of(BOTH, PegAt().lot_over(".:Aa"), most=40), 4
    yield Guide.of(Card.read("a=1 b=1: ab.>.b. ba.<..."), AtMost(0).lot_over(".ab"), board="ring", most=40), 5
    yield Guide.of(Card.read("a=1:"), pattern("(aa)*.?", ".a")), 6


def plain_hope(guide, row):
    return any(end in guide.lot for end in plain_reached(guide.card, row, guide.board))


def distance(row, other):
    return sum(sign != place for sign, place in zip(row, other))


class GuideTest(LeapTest):
    def test_example(self):
        guide = Guide.of(RIGHT, OnePeg().lot_over(".a"))
        self.assertEqual(guide.to_lot("aa.a."), [(0, 0), (2, 0)])

    def test_attributes(self):
        twice = Machine(".a", [[0, 1], [5, 3], [2, 4], [1, 4], [4, 4], [2, 4]], [1, 2, 5])
        self.assertEqual(twice.least(), EXACT)
        guide = Guide(RIGHT, twice, LOT)
        self.assertEqual((guide.card, guide.machine, guide.lot, guide.board), (RIGHT, twice, LOT, "row"))
        guide = Guide.of(RIGHT, LOT, board="ring", most=27)
        self.assertEqual((guide.card, guide.machine.size, guide.lot, guide.board), (RIGHT, 27, LOT, "ring"))
        self.assertIsInstance(Guide.__dict__["of"], staticmethod)

    def test_has_hope(self):
        for guide, most in some_guides():
            for row in rows_up_to(guide.machine.signs, most):
                self.assertIs(guide.has_hope(row), plain_hope(guide, row))

    def test_keeping(self):
        for guide, most in some_guides():
            for row in rows_up_to(guide.machine.signs, most):
                kept = [move for move in plain_moves(guide.card, row, guide.board)
                        if plain_hope(guide, plain_after(guide.card, row, move))]
                self.assertEqual(guide.keeping(row), kept)

    def test_to_lot(self):
        for guide, most in some_guides():
            for row in rows_up_to(guide.machine.signs, most):
                play = guide.to_lot(row)
                self.assertEqual(play is not None, plain_hope(guide, row))
                if play is not None:
                    here = row
                    for move in play:
                        self.assertFalse(here in guide.lot)
                        self.assertEqual(move, guide.keeping(here)[0])
                        here = plain_after(guide.card, here, move)
                    self.assertTrue(here in guide.lot)

    def test_a_row_in_the_lot_needs_no_move(self):
        guide = Guide.of(RIGHT, AtMost(2).lot_over(".a"))
        self.assertEqual(guide.to_lot("aa."), [])
        self.assertEqual(guide.to_lot(""), [])
        self.assertIsNone(guide.to_lot("aaa"))

    def test_watched(self):
        for guide, most in some_guides():
            for row in rows_of(guide.machine.signs, most):
                for play, _ in plain_plays(guide.card, row, guide.board):
                    rows = [row]
                    for move in play:
                        rows.append(plain_after(guide.card, rows[-1], move))
                    wanted = [(index, here, plain_hope(guide, here)) for index, here in enumerate(rows)]
                    self.assertEqual(list(guide.watched(row, play)), wanted)

    def test_watched_one_by_one(self):
        guide = Guide.of(BOTH, LOT, most=18)
        seen = guide.watched("aa.a.", [(0, 0), (2, 0), (2, 0), (2, 0)])
        self.assertEqual(next(seen), (0, "aa.a.", True))
        self.assertEqual(next(seen), (1, "..aa.", True))
        self.assertEqual(next(seen), (2, "....a", True))
        self.fails(NoJump, "index", 2, next, seen)
        seen = guide.watched("ab", [(0, 0)])
        self.fails(InvalidRow, "row", "ab", next, seen)
        seen = guide.watched("aa.", [(1, 0)])
        self.assertEqual(next(seen), (0, "aa.", True))
        self.fails(NoJump, "index", 0, next, seen)
        self.assertEqual(list(guide.watched(".", [])), [(0, ".", False)])

    def test_blame(self):
        for guide, most in some_guides():
            for row in rows_of(guide.machine.signs, most):
                for play, _ in plain_plays(guide.card, row, guide.board):
                    rows = [row]
                    for move in play:
                        rows.append(plain_after(guide.card, rows[-1], move))
                    hopes = [plain_hope(guide, here) for here in rows]
                    lost = [at for at in range(len(play)) if hopes[at] and not hopes[at + 1]]
                    self.assertEqual(guide.blame(row, play), lost[0] if lost else None)

    def test_blame_and_moves_that_cannot_be_made(self):
        guide = Guide.of(BOTH, LOT, most=18)
        row = ".a.aaaa"
        play = [(2, 1), (0, 1), (4, 1)]
        self.assertEqual([hope for _, _, hope in guide.watched(row, play)], [True, True, False, False])
        self.assertEqual(guide.blame(row, play), 1)
        for at in range(4):
            wrong = play[:at] + [(6, 0)] + play[at:]
            self.fails(NoJump, "index", at, guide.blame, row, wrong)
            rows = []
            with self.assertRaises(NoJump) as caught:
                for item in guide.watched(row, wrong):
                    rows.append(item[0])
            self.assertEqual((caught.exception.index, rows), (at, list(range(at + 1))))
        self.assertIsNone(guide.blame(row, []))

    def test_nearest(self):
        for guide, most in some_guides():
            for length in range(most + 1):
                rows = rows_of(guide.machine.signs, length)
                fits = [row for row in rows if plain_hope(guide, row)]
                for row in rows[:150]:
                    fewest = min((distance(row, other) for other in fits), default=None)
                    self.assertEqual(guide.nearest(row), least_of([x for x in fits if distance(row, x) == fewest]))

    def test_nearest_rows(self):
        guide = Guide(RIGHT, EXACT, LOT)
        self.assertEqual(guide.nearest("aa."), "aa.")
        self.assertEqual(guide.nearest("..."), "..a")
        self.assertIsNone(guide.nearest(""))
        long = "a" * 400
        found = guide.nearest(long)
        self.assertTrue(found in EXACT)
        self.assertEqual(len(found), 400)

    def test_not_exact(self):
        for row in ("", "aaa", "..", "aa.", ".aa.", "aa.a.a."):
            machine = EXACT ^ Machine.of_rows(".a", [row])
            found = [wrong for wrong in rows_up_to(".a", 8) if self.is_break(machine, wrong)]
            self.fails(NotExact, "row", least_of(found), Guide, RIGHT, machine, LOT)
        self.fails(NotExact, "row", "a", Guide, RIGHT, Machine.nothing(".a"), LOT)
        self.fails(NotExact, "row", "", Guide, RIGHT, Machine.everything(".a"), LOT)
        self.fails(NotExact, "row", ".aa", Guide, RIGHT, EXACT, LOT, board="ring")

    def is_break(self, machine, row):
        """Whether the row violates one of the three conditions."""
        leads = any(plain_after(RIGHT, row, move) in machine for move in plain_moves(RIGHT, row, "row"))
        if row in machine:
            return row not in LOT and not leads
        return row in LOT or leads

    def test_the_least_of_breaks_of_one_length(self):
        machine = EXACT ^ Machine.of_rows(".a", ["aa.", "aaa", "a.."])
        self.fails(NotExact, "row", "a..", Guide, RIGHT, machine, LOT)
        machine = EXACT ^ Machine.of_rows(".a", ["aa.", "aaa", "..."])
        self.fails(NotExact, "row", "...", Guide, RIGHT, machine, LOT)

    def test_no_machine(self):
        self.fails(NoMachine, "most", 12, Guide.of, BOTH, LOT)
        self.fails(NoMachine, "most", 17, Guide.of, BOTH, LOT, most=17)
        self.assertEqual(Guide.of(BOTH, LOT, most=18).machine, learn(BOTH, LOT, most=18).machine)

    def test_nothing_is_changed(self):
        guide = Guide(RIGHT, EXACT, LOT)
        play = [(0, 0), (2, 0)]
        self.assertEqual(list(guide.watched("aa.a.", tuple(play))), list(guide.watched("aa.a.", play)))
        self.assertIsNone(guide.blame("aa.a.", play))
        self.assertIsNone(guide.blame("aa.a.", tuple(play)))
        self.assertEqual(play, [(0, 0), (2, 0)])
        guide.to_lot("aa.a.").clear()
        guide.keeping("aa.a.").clear()
        self.assertEqual((guide.to_lot("aa.a."), guide.keeping("aa.a.")), (play, [(0, 0)]))
        self.assertEqual((str(guide.machine), str(guide.lot)), (str(EXACT), str(LOT)))

    def test_errors(self):
        guide = Guide(RIGHT, EXACT, LOT)
        for row in ("b", "#", "a:", " "):
            for call in (guide.has_hope, guide.keeping, guide.to_lot, guide.nearest):
                self.fails(InvalidRow, "row", row, call, row)
            self.fails(InvalidRow, "row", row, guide.blame, row, [(9, 9)])
            self.fails(InvalidRow, "row", row, list, guide.watched(row, [(9, 9)]))
        for signs in (".ab", "a"):
            other = Machine.everything(signs)
            self.fails(Unlike, "signs", signs, Guide, RIGHT, other, LOT)
            self.fails(Unlike, "signs", signs, Guide, RIGHT, EXACT, other)
            self.fails(Unlike, "signs", signs, Guide.of, RIGHT, other)
            self.fails(InvalidBoard, "board", "x", Guide, RIGHT, other, LOT, board="x")
            self.fails(InvalidBoard, "board", "x", Guide.of, RIGHT, other, board="x")
        self.fails(Unlike, "signs", "#.a", Guide, RIGHT, EXACT, Machine.everything("#.a"))
