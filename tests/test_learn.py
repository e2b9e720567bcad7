from leapcard.answers import Answer, Found, Parted, SumFound, SumParted
from leapcard.cards import Card
from leapcard.errors import InvalidBoard, InvalidRow, Unlike
from leapcard.learn import can_reach, is_right, learn, plain_rows
from leapcard.machine import Machine
from leapcard.patterns import pattern
from leapcard.sums import SumMachine
from leapcard.targets import AtMost, Both, Not, OnePeg, PegAt, Shape
from tests.helpers import LeapTest, plain_reached, rows_of, rows_up_to

RIGHT = Card.read("a=1: aa.>..a")
LOT = OnePeg().lot_over(".a")
EXACT = Machine.read(".a|0,1|2,3!|2,4!|1,4|4,4")
BOARDS = ("row", "ring")


def plain_hope(card, row, lot, board):
    return any(end in lot for end in plain_reached(card, row, board))


def some_lots():
    yield RIGHT, LOT, 9
    yield Card.read("a=1: aa.=..a"), OnePeg().lot_over("#.a"), 6
    yield Card.read("a=1: aa.=..a"), PegAt().lot_over(".:Aa"), 4
    yield Card.read("a=1: aaa.<...a"), Shape(".*a?").lot_over("#.:Aa"), 4
    yield Card.read("a=1 b=3: ab.=..b bb.>.aa"), Both(OnePeg("a"), Not(AtMost(0))).lot_over(".ab"), 5
    yield Card.read("a=1 b=1: ab.>..."), AtMost(0).lot_over("#.ab"), 4
    yield Card.read("a=1:"), AtMost(1).lot_over(".a"), 6


class PlayedOutTest(LeapTest):
    def test_can_reach(self):
        for card, lot, most in some_lots():
            for board in BOARDS:
                for row in rows_up_to(lot.signs, most):
                    self.assertIs(can_reach(card, row, lot, board=board), plain_hope(card, row, lot, board), (row, board))

    def test_plain_rows(self):
        for card, lot, most in some_lots():
            for board in BOARDS:
                for length in (0, 1, most):
                    rows = [row for row in rows_of(lot.signs, length) if plain_hope(card, row, lot, board)]
                    self.assertEqual(plain_rows(card, lot, length, board=board), rows)
        self.assertEqual(plain_rows(RIGHT, LOT, 3), [row for row in rows_of(".a", 3) if row in EXACT])

    def test_a_long_row(self):
        self.assertTrue(can_reach(Card.read("a=1: aa.=..a"), "aa" + ".a" * 28 + "..", LOT))
        self.assertFalse(can_reach(Card.read("a=1: aa.=..a"), "a" + ".a" * 29, LOT))

    def test_marks_and_walls(self):
        card = Card.read("a=1: aa.=..a")
        lot = PegAt().lot_over("#.:Aa")
        self.assertTrue(can_reach(card, "aa:", lot))
        self.assertFalse(can_reach(card, "a#a:", lot))
        self.assertFalse(can_reach(card, "aa:", lot) and can_reach(card, "aA.", lot))

    def test_errors(self):
        for row in ("b", "#", ":", "A", "ax"):
            self.fails(InvalidRow, "row", row, can_reach, RIGHT, row, LOT)
            self.fails(InvalidBoard, "board", "line", can_reach, RIGHT, row, LOT, board="line")
        for signs in (".ab", "a", "#a"):
            lot = Machine.everything(signs)
            self.fails(Unlike, "signs", signs, can_reach, RIGHT, "x", lot)
            self.fails(Unlike, "signs", signs, plain_rows, RIGHT, lot, 2)
            self.fails(InvalidBoard, "board", "line", can_reach, RIGHT, "x", lot, board="line")
            self.fails(InvalidBoard, "board", "line", plain_rows, RIGHT, lot, 2, board="line")


class LearnTest(LeapTest):
    def test_example(self):
        answer = learn(RIGHT, LOT)
        self.assertEqual(str(answer.machine), ".a|0,1|2,3!|2,4!|1,4|4,4")
        self.assertEqual(answer.machine, pattern(".*a.*|.*aa(.a)*..*", ".a"))
        self.assertEqual(answer.verdict, "found")
        self.assertEqual(answer.told(), f"found 5 states, {len(answer.guesses)} guesses")

    def test_learned_machines(self):
        for card, lot, most in some_lots():
            for board in BOARDS:
                answer = learn(card, lot, board=board, most=40)
                self.assertTrue(is_right(card, lot, answer, board=board, most=40))
                self.check_guesses(card, lot, board, answer, 40)
                if isinstance(answer, Found):
                    self.assertEqual(answer.machine.signs, lot.signs)
                    self.assertEqual(answer.machine, answer.machine.least())
                    for row in rows_up_to(lot.signs, most):
                        self.assertEqual(row in answer.machine, plain_hope(card, row, lot, board), row)

    def check_guesses(self, card, lot, board, answer, most):
        self.assertIsInstance(answer.guesses, list)
        sizes = [machine.size for machine, _ in answer.guesses]
        self.assertEqual(sizes, sorted(set(sizes)))
        self.assertTrue(all(size <= most for size in sizes))
        for machine, row in answer.guesses:
            self.assertNotEqual(row in machine, can_reach(card, row, lot, board=board))

    def check_parted(self, card, lot, board, answer, most):
        self.assertEqual(answer.verdict, "parted")
        self.assertEqual(len(set(answer.rows)), most + 1)
        self.assertEqual([len(row) for row in answer.endings], list(range(most + 1)))
        for j, row in enumerate(answer.endings):
            for i, ending in enumerate(row):
                self.assertNotEqual(plain_hope(card, answer.rows[i] + ending, lot, board),
                                    plain_hope(card, answer.rows[j] + ending, lot, board))
        self.check_guesses(card, lot, board, answer, most)
        self.assertTrue(is_right(card, lot, answer, board=board, most=most))

    def test_the_least_most(self):
        for card, lot, board, size in ((RIGHT, LOT, "row", 5), (RIGHT, LOT, "ring", 27),
                                       (Card.read("a=1: aa.=..a"), LOT, "row", 18),
                                       (Card.read("a=1:"), LOT, "row", 3), (RIGHT, AtMost(2).lot_over(".a"), "row", 9)):
            answer = learn(card, lot, board=board, most=size)
            self.assertIsInstance(answer, Found)
            self.assertEqual(answer.machine.size, size)
            self.assertTrue(is_right(card, lot, answer, board=board, most=size))
            self.assertFalse(is_right(card, lot, answer, board=board, most=size - 1))
            answer = learn(card, lot, board=board, most=size - 1)
            self.assertIsInstance(answer, Parted)
            self.assertEqual(answer.told(), f"more than {size - 1} states, {len(answer.guesses)} guesses")
            self.check_parted(card, lot, board, answer, size - 1)

    def test_every_most_below_the_least_one(self):
        for most in (1, 2, 3, 4, 12, 17):
            answer = learn(Card.read("a=1: aa.=..a"), LOT, most=most)
            self.check_parted(Card.read("a=1: aa.=..a"), LOT, "row", answer, most)

    def test_most_is_twelve_at_first(self):
        card = Card.read("a=1: aa.=..a")
        self.assertEqual(len(learn(card, LOT).rows), 13)
        self.assertTrue(is_right(card, LOT, learn(card, LOT)))
        self.assertFalse(is_right(card, LOT, learn(card, LOT, most=18)))

    def test_one_state(self):
        for lot in (Machine.nothing(".a"), Machine.everything(".a")):
            for board in BOARDS:
                answer = learn(RIGHT, lot, board=board, most=1)
                self.assertEqual((answer.machine, answer.guesses), (lot, []))
                self.assertTrue(is_right(RIGHT, lot, answer, board=board, most=1))

    def test_a_lot_that_is_not_the_least_machine(self):
        lot = Machine(".a", [[1, 2], [0, 3], [4, 5], [4, 5], [2, 5], [5, 5], [6, 6]], [4, 2, 3, 6])
        self.assertEqual(lot.least(), LOT)
        self.assertEqual(learn(RIGHT, lot).machine, EXACT)

    def test_errors(self):
        answer = learn(RIGHT, LOT)
        for call, rest in ((learn, ()), (is_right, (answer,)), (is_right, (None,))):
            for signs in (".ab", "a", "#a"):
                self.fails(Unlike, "signs", signs, call, RIGHT, Machine.everything(signs), *rest)
                self.fails(InvalidBoard, "board", 0, call, RIGHT, Machine.everything(signs), *rest, board=0)
            self.fails(InvalidBoard, "board", "rows", call, RIGHT, LOT, *rest, board="rows")


class IsRightTest(LeapTest):
    def right(self, answer, most=12, board="row"):
        self.assertIs(is_right(RIGHT, LOT, answer, most=most, board=board), True)

    def wrong(self, answer, most=12, board="row"):
        self.assertIs(is_right(RIGHT, LOT, answer, most=most, board=board), False)

    def test_found(self):
        self.right(Found(EXACT, []))
        self.right(Found(EXACT, []), most=5)
        self.wrong(Found(EXACT, []), most=4)
        self.wrong(Found(EXACT, []), board="ring")
        self.wrong(Found(Machine(".a", [[0, 1], [3, 2], [1, 4], [3, 4], [4, 4]], [1, 3]), []))
        self.wrong(Found(Machine(".a", [[0, 1], [2, 3], [5, 4], [1, 4], [4, 4], [5, 4]], [1, 2, 5]), []))
        self.wrong(Found(EXACT ^ Machine.of_rows(".a", ["aa.a."]), []), most=40)
        self.wrong(Found(Machine.everything("#.a"), []))
        self.wrong(Found(learn(RIGHT, OnePeg().lot_over("#.a")).machine, []))

    def test_other_classes(self):
        parted = learn(RIGHT, LOT, most=3)
        for answer in (SumFound(EXACT, []), Answer([]), SumParted(parted.rows, parted.endings, []), None, EXACT, "found"):
            self.wrong(answer)
            self.wrong(answer, most=3)

    def test_guesses(self):
        none, every, half = Machine.nothing(".a"), Machine.everything(".a"), pattern(".*", ".a")
        self.right(Found(EXACT, [(none, "a"), (half, "a")]))
        self.right(Found(EXACT, [(every, "aa"), (half, ".")]))
        self.wrong(Found(EXACT, [(none, "aa"), (half, "a")]))
        self.wrong(Found(EXACT, [(half, "a"), (none, "a")]))
        self.wrong(Found(EXACT, [(none, "a"), (every, "aa")]))
        self.wrong(Found(EXACT, [(none, "a"), (half, "ab")]))
        self.wrong(Found(EXACT, [(none, "a#")]))
        self.wrong(Found(EXACT, [(Machine.nothing("#.a"), "a")]))
        big = EXACT ^ Machine.of_rows(".a", ["aaaa"])
        self.assertGreater(big.size, 6)
        self.right(Found(EXACT, [(big, "aaaa")]), most=big.size)
        self.wrong(Found(EXACT, [(big, "aaaa")]), most=big.size - 1)
        self.right(Found(EXACT, [(Machine(".a", [[0, 0], [1, 0]], [1]), "a")]))
        for guess in ((none,), (none, "a", "a"), [none, "a"], (none, None), (SumMachine.zero(".a"), "a")):
            self.wrong(Found(EXACT, [guess]))
        self.wrong(Found(SumMachine.zero(".a"), []))

    def test_guesses_of_parted(self):
        parted = learn(RIGHT, LOT, most=3)
        none = Machine.nothing(".a")
        self.right(Parted(parted.rows, parted.endings, [(none, "a")]), most=3)
        self.wrong(Parted(parted.rows, parted.endings, [(none, "aa")]), most=3)
        self.wrong(Parted(parted.rows, parted.endings, [(none, "a"), (none, "a")]), most=3)

    def test_parted(self):
        rows, endings = ["", "a", "aa"], [[], [""], ["a", "."]]
        self.assertEqual([can_reach(RIGHT, row, LOT) for row in ("", "a", "aaa", "a.", "aa.")],
                         [False, True, False, True, True])
        self.right(Parted(rows, [[], [""], ["a", ""]], []), most=2)
        self.wrong(Parted(rows, endings, []), most=2)
        self.wrong(Parted(rows, [[], [""], ["a", ""]], []), most=3)
        self.wrong(Parted(rows, [[], [""], ["a", ""]], []), most=1)
        self.right(Parted(rows[:2], [[], [""]], []), most=1)
        self.right(Parted(rows, [[], [""], [".", ""]], []), most=2)
        self.wrong(Parted(rows, [[], [""], ["", ""]], []), most=2)
        self.wrong(Parted(["", "a", "a"], [[], [""], ["", ""]], []), most=2)
        self.wrong(Parted(["", "a", ""], [[], [""], ["", ""]], []), most=2)

    def test_form_of_endings(self):
        rows = ["", "a", "aa"]
        for endings in ([], [[], [""]], [[""], ["a", ""]], [[], [""], ["a"]], [[], [""], ["a", "", ""]],
                        [[""], [""], ["a", ""]], [[], [], ["a", ""]], [[], [""], ["a", ""], []]):
            self.wrong(Parted(rows, endings, []), most=2)

    def test_signs_that_the_lot_does_not_have(self):
        self.wrong(Parted(["", "b"], [[], [""]], []), most=1)
        self.wrong(Parted(["", "a"], [[], ["#"]], []), most=1)
        self.wrong(Parted(["", "A"], [[], [""]], []), most=1)

    def test_each_change_of_an_answer(self):
        answer = learn(RIGHT, LOT, most=4)
        self.right(answer, most=4)
        for j in range(5):
            rows = list(answer.rows)
            rows[j] = rows[j - 1]
            self.wrong(Parted(rows, answer.endings, answer.guesses), most=4)
            for i in range(j):
                endings = [list(row) for row in answer.endings]
                endings[j][i] = "aaaa"
                self.wrong(Parted(answer.rows, endings, answer.guesses), most=4)
        for at, (machine, row) in enumerate(answer.guesses):
            guesses = list(answer.guesses)
            guesses[at] = (~machine, row)
            self.wrong(Parted(answer.rows, answer.endings, guesses), most=4)
        if len(answer.guesses) > 1:
            self.wrong(Parted(answer.rows, answer.endings, answer.guesses[::-1]), most=4)
