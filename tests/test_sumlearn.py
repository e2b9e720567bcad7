from leapcard.answers import Answer, Found, Parted, SumFound, SumParted
from leapcard.cards import Card
from leapcard.errors import InvalidBoard, InvalidMeasure, Unlike
from leapcard.machine import Machine
from leapcard.measures import measured
from leapcard.scores import Measure, Scores
from leapcard.sumlearn import is_sum_right, learn_sum
from leapcard.sums import SumMachine
from leapcard.survey import first_rows, parted_in_survey
from tests.helpers import LeapTest, plain_measure, rows_up_to
from tests.test_sumcheck import bump

LEFT = Card.read("a=1: aa.<.a.")
MEASURES = ("left", "worth", "long")
BOARDS = ("row", "ring")
CARDS = ("a=1: aa.<.a.", "a=2: aa.=..a", "a=3 b=1: ab.<...", "a=1 b=4 c=4: cac.<..ab", "a=2: aaa.<.a..", "a=7:")


def some_questions():
    for text in CARDS:
        card = Card.read(text)
        for walls, marks in ((False, False), (True, False), (False, True), (True, True)):
            yield card, card.sign_string(walls=walls, marks=marks)


class LearnSumTest(LeapTest):
    def check_parted(self, card, measure, board, answer, most):
        self.assertEqual(answer.verdict, "sum parted")
        self.assertEqual(answer.told(), f"more than {most} states, {len(answer.guesses)} guesses")
        self.assertEqual(len(set(answer.rows)), most + 1)
        self.assertEqual([len(row) for row in answer.endings], list(range(most + 1)))

        def added(row, ending):
            return measured(card, row + ending, measure, board=board) - measured(card, row, measure, board=board)

        for j, row in enumerate(answer.endings):
            for i, ending in enumerate(row):
                self.assertNotEqual(added(answer.rows[i], ending), added(answer.rows[j], ending))

    def check_guesses(self, card, signs, measure, board, answer, most):
        sizes = [machine.size for machine, _ in answer.guesses]
        self.assertEqual(sizes, sorted(set(sizes)))
        self.assertTrue(all(size <= most for size in sizes))
        for machine, row in answer.guesses:
            self.assertIsInstance(machine, SumMachine)
            self.assertEqual(machine.signs, signs)
            self.assertNotEqual(machine.value(row), measured(card, row, measure, board=board))

    def test_answers(self):
        verdicts = []
        for card, signs in some_questions():
            for measure in MEASURES:
                for board in BOARDS:
                    answer = learn_sum(card, signs, measure, board=board, most=6)
                    verdicts.append(answer.verdict)
                    self.assertTrue(is_sum_right(card, signs, measure, answer, board=board, most=6))
                    self.check_guesses(card, signs, measure, board, answer, 6)
                    if answer.verdict == "sum parted":
                        self.check_parted(card, measure, board, answer, 6)
                        continue
                    machine = answer.machine
                    self.assertEqual((machine.signs, machine), (signs, machine.least()))
                    self.assertEqual(answer.told(), f"found {machine.size} states, {len(answer.guesses)} guesses")
                    for row in rows_up_to(signs, {2: 7, 3: 5, 4: 4}.get(len(signs), 2)):
                        self.assertEqual(machine.value(row), plain_measure(card, row, measure, board), row)
        self.assertGreater(verdicts.count("sum found"), 20)
        self.assertGreater(verdicts.count("sum parted"), 20)

    def test_the_least_most(self):
        for text, signs, measure, board, size in (("a=1: aa.<.a.", ".a", "left", "row", 3),
                                                  ("a=3 b=1: ab.<...", "#.ab", "worth", "row", 3),
                                                  ("a=1 b=4 c=4: cac.<..ab", ".abc", "long", "row", 4),
                                                  ("a=2: aaa.<.a..", ".:Aa", "worth", "row", 4)):
            card = Card.read(text)
            answer = learn_sum(card, signs, measure, board=board, most=size)
            self.assertIsInstance(answer, SumFound)
            self.assertEqual(answer.machine.size, size)
            self.assertFalse(is_sum_right(card, signs, measure, answer, board=board, most=size - 1))
            answer = learn_sum(card, signs, measure, board=board, most=size - 1)
            self.assertIsInstance(answer, SumParted)
            self.check_parted(card, measure, board, answer, size - 1)
            self.assertFalse(is_sum_right(card, signs, measure, answer, board=board, most=size))

    def test_more_states_than_wanted(self):
        for most in (1, 2, 12, 25):
            for board in BOARDS:
                answer = learn_sum(Card.read("a=1: aa.=..a"), ".a", "left", board=board, most=most)
                self.check_parted(Card.read("a=1: aa.=..a"), "left", board, answer, most)
                self.assertTrue(is_sum_right(Card.read("a=1: aa.=..a"), ".a", "left", answer, board=board, most=most))

    def test_most_is_twelve_at_first(self):
        card = Card.read("a=1: aa.=..a")
        answer = learn_sum(card, ".a", "left")
        self.assertEqual(len(answer.rows), 13)
        self.assertTrue(is_sum_right(card, ".a", "left", answer))

    def test_many_states_shown_by_short_rows(self):
        card = Card.read("a=1: aa.=..a aaa.=...a")
        for measure in MEASURES:
            for board, signs in (("ring", ".a"), ("ring", "#.:Aa"), ("row", "#.a")):
                answer = learn_sum(card, signs, measure, board=board, most=40)
                self.check_parted(card, measure, board, answer, 40)
                self.check_guesses(card, signs, measure, board, answer, 40)

    def test_survey(self):
        card = Card.read("a=1: aa.=..a")
        scores = Scores(card, Measure(card, "left"), "row")
        for most in (1, 7, 12):
            rows, endings = parted_in_survey(".a", scores, most)
            self.check_parted(card, "left", "row", SumParted(rows, endings, []), most)
        self.assertIsNone(parted_in_survey(".a", scores, 255))
        scores = Scores(LEFT, Measure(LEFT, "left"), "row")
        self.assertIsNone(parted_in_survey(".a", scores, 3))
        self.assertEqual(len(parted_in_survey(".a", scores, 2)[0]), 3)
        self.assertEqual(first_rows(".a", 4), ["", ".", "a", ".."])

    def test_rows_that_short_endings_do_not_part(self):
        # with so many states, rows of great length are looked at
        card = Card.read("a=1: aa.>..a")
        answer = learn_sum(card, ".a", "long", most=20)
        self.check_parted(card, "long", "row", answer, 20)

    def test_errors_and_their_order(self):
        answer = learn_sum(LEFT, ".a", "left")
        for call, rest in ((learn_sum, ()), (is_sum_right, (answer,)), (is_sum_right, (None,))):
            for signs in (".ab", "a", "", "a.", "xyz"):
                self.fails(Unlike, "signs", signs, call, LEFT, signs, "left", *rest)
                self.fails(Unlike, "signs", signs, call, LEFT, signs, "most", *rest)
                self.fails(InvalidBoard, "board", "x", call, LEFT, signs, "most", *rest, board="x")
            self.fails(InvalidMeasure, "measure", "most", call, LEFT, ".a", "most", *rest)
            self.fails(InvalidBoard, "board", "x", call, LEFT, ".a", "left", *rest, board="x")


class IsSumRightTest(LeapTest):
    def setUp(self):
        self.machine = learn_sum(LEFT, ".a", "left").machine

    def right(self, answer, most=12):
        self.assertIs(is_sum_right(LEFT, ".a", "left", answer, most=most), True)

    def wrong(self, answer, most=12, measure="left", board="row"):
        self.assertIs(is_sum_right(LEFT, ".a", measure, answer, most=most, board=board), False)

    def test_found(self):
        machine = self.machine
        self.assertEqual(machine.size, 3)
        self.right(SumFound(machine, []))
        self.right(SumFound(machine, []), most=3)
        self.wrong(SumFound(machine, []), most=2)
        self.wrong(SumFound(machine, []), measure="long")
        self.wrong(SumFound(machine, []), board="ring")
        self.wrong(SumFound(machine + bump(".a", ".aa.", 1), []))
        self.wrong(SumFound(machine + bump(".a", ".aa.", -1), []))
        self.wrong(SumFound(SumMachine(".a", [*machine.arrows, [0, 0]], [*machine.sums, [0, 0]]), []))
        self.wrong(SumFound(learn_sum(LEFT, "#.a", "left").machine, []))
        self.wrong(SumFound(Machine.nothing(".a"), []))
        swapped = [0, 2, 1]
        other = SumMachine(".a", [[swapped[to] for to in machine.arrows[state]] for state in swapped],
                           [machine.sums[state] for state in swapped])
        self.assertEqual(other.least(), machine)
        self.wrong(SumFound(other, []))

    def test_other_classes(self):
        parted = learn_sum(LEFT, ".a", "left", most=2)
        self.right(parted, most=2)
        for answer in (Found(self.machine, []), Answer([]), None, self.machine,
                       Parted(parted.rows, parted.endings, [])):
            self.wrong(answer)
            self.wrong(answer, most=2)

    def test_guesses(self):
        machine, zero = self.machine, SumMachine.zero(".a")
        two = SumMachine(".a", [[1, 0], [1, 1]], [[0, 1], [0, 0]])
        self.right(SumFound(machine, [(zero, "a")]))
        self.right(SumFound(machine, [(zero, "a"), (two, ".a")]))
        self.wrong(SumFound(machine, [(zero, ".")]))
        self.wrong(SumFound(machine, [(two, ".a"), (zero, "a")]))
        self.wrong(SumFound(machine, [(zero, "a"), (zero, "aa")]))
        self.wrong(SumFound(machine, [(zero, "b")]))
        self.wrong(SumFound(machine, [(SumMachine.zero("#.a"), "a")]))
        self.wrong(SumFound(machine, [(Machine.everything(".a"), "a")]))
        self.wrong(SumFound(machine, [(zero, "a", 0)]))
        self.wrong(SumFound(machine, [[zero, "a"]]))
        big = machine + bump(".a", "aaaa", 1)
        self.right(SumFound(machine, [(big, "aaaa")]), most=big.size)
        self.wrong(SumFound(machine, [(big, "aaaa")]), most=big.size - 1)

    def test_parted(self):
        # behind nothing, .a and a an ending adds different numbers: a peg leaps to the left over a peg
        rows, endings = ["", ".", ".a"], [[], ["aa"], ["a", "a"]]
        self.assertEqual([measured(LEFT, row, "left") for row in ("aa", ".aa", ".a", ".aaa", "a")], [2, 1, 1, 2, 1])
        self.right(SumParted(rows[:2], endings[:2], []), most=1)
        self.right(SumParted(rows, endings, []), most=2)
        self.wrong(SumParted(rows, endings, []), most=1)
        self.wrong(SumParted(rows, endings, []), most=3)
        self.wrong(SumParted(rows, [[], ["a"], ["a", "a"]], []), most=2)
        self.wrong(SumParted(rows, [[], ["aa"], ["a", "."]], []), most=2)
        self.wrong(SumParted(rows, [[], ["aa"], ["a"]], []), most=2)
        self.wrong(SumParted(rows, [["a"], ["aa"], ["a", "a"]], []), most=2)
        self.wrong(SumParted(rows, [[], ["aa"]], []), most=2)
        self.wrong(SumParted(["", ".", "."], endings, []), most=2)
        self.wrong(SumParted(["", ".", "b"], endings, []), most=2)
        self.wrong(SumParted(rows, [[], ["aa"], ["a", "#"]], []), most=2)
        self.wrong(SumParted(rows, endings, [(SumMachine.zero(".a"), ".")]), most=2)
        self.right(SumParted(rows, endings, [(SumMachine.zero(".a"), "a")]), most=2)

    def test_each_change_of_an_answer(self):
        answer = learn_sum(Card.read("a=1: aa.=..a"), ".a", "left", most=5)
        for j in range(6):
            rows = list(answer.rows)
            rows[j] = rows[j - 1]
            self.assertFalse(is_sum_right(LEFT, ".a", "left", SumParted(rows, answer.endings, []), most=5))
            for i in range(j):
                endings = [list(row) for row in answer.endings]
                endings[j][i] = ""
                changed = SumParted(answer.rows, endings, answer.guesses)
                self.assertFalse(is_sum_right(Card.read("a=1: aa.=..a"), ".a", "left", changed, most=5))
