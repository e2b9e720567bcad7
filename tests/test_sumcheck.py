from leapcard.cards import Card
from leapcard.errors import InvalidBoard, InvalidMeasure, Unlike
from leapcard.machine import Machine
from leapcard.sumcheck import are_heights, heights, is_sum_exact, sum_breaks
from leapcard.sumlearn import learn_sum
from leapcard.sums import SumMachine
from tests.helpers import LeapTest, least_of, plain_base, plain_measure, plain_next, rows_up_to
from tests.plain_configs import plain_configs, plain_onward, plain_starts

BOARDS = ("row", "ring")
LEFT = Card.read("a=1: aa.<.a.")
CASES = (("a=1: aa.<.a.", ".a", "left", "row"), ("a=2: aa.<.a.", "#.a", "worth", "row"),
         ("a=3 b=1: ab.<...", ".:ABab", "left", "row"), ("a=4: aa.<.a.", ".a", "long", "row"),
         ("a=1 b=4 c=4: cac.<..ab", ".abc", "long", "row"), ("a=3:", "#.a", "worth", "ring"), ("a=3:", ".a", "long", "ring"))


def exact_machine(text, signs, measure, board):
    return learn_sum(Card.read(text), signs, measure, board=board, most=12).machine


def bump(signs, row, by):
    """The sum machine with the value by for one row, and 0 for all others."""
    one = Machine.of_rows(signs, [row])
    sums = [[by * (int(to in one.finals) - int(state in one.finals)) for to in ends]
            for state, ends in enumerate(one.arrows)]
    return SumMachine(signs, one.arrows, sums)


def plain_sum_breaks(card, machine, measure, board, rows):
    """The three breaks among these rows, the third one even if there are others."""
    sense = -1 if measure == "long" else 1
    cost = int(measure == "long")
    found = ([], [], [])
    for row in rows:
        value, base = machine.value(row), plain_base(card, row, measure)
        afters = [cost + machine.value(after) for after in plain_next(card, row, board)]
        if sense * value > sense * base:
            found[0].append(row)
        if any(sense * value > sense * after for after in afters):
            found[1].append(row)
        if value != base and value not in afters:
            found[2].append(row)
    return tuple(least_of(wrong) for wrong in found)


def some_machines():
    """Exact machines, machines that are wrong about one row, and quite wrong ones."""
    for text, signs, measure, board in CASES:
        card, exact = Card.read(text), exact_machine(text, signs, measure, board)
        yield card, exact, measure, board
        for row in (".a", "aa.", ".aa", "a.aa"):
            for by in (1, -1, 3):
                yield card, exact + bump(signs, row, by), measure, board
        yield card, exact + SumMachine.weights(signs, {"a": -1}), measure, board
        yield card, exact + SumMachine.weights(signs, {".": 1}), measure, board
        yield card, SumMachine.zero(signs), measure, board
    for board in BOARDS:
        for measure in ("left", "worth", "long"):
            for machine in (SumMachine.weights(".a", {"a": 1}), SumMachine(".a", [[0, 1], [0, 1]], [[0, 1], [1, 0]]),
                            SumMachine(".a", [[1, 1], [1, 2], [0, 0]], [[5, 4], [-1, 0], [0, 0]])):
                yield Card.read("a=2: aa.=..a"), machine, measure, board


class SumBreaksTest(LeapTest):
    def test_against_all_short_rows(self):
        seen = [0, 0, 0, 0]
        for card, machine, measure, board in some_machines():
            most = {2: 9, 3: 6, 4: 5}.get(len(machine.signs), 4)
            rows = rows_up_to(machine.signs, most)
            first, second, third = plain_sum_breaks(card, machine, measure, board, rows)
            found = sum_breaks(card, machine, measure, board=board)
            short = tuple(row if row is None or len(row) <= most else None for row in found)
            if found[:2] == (None, None):
                self.assertEqual(short, (first, second, third))
            else:
                self.assertEqual((short, found[2]), ((first, second, None), None))
            self.assertIs(is_sum_exact(card, machine, measure, board=board), found == (None, None, None))
            for at in range(3):
                seen[at] += found[at] is not None
            seen[3] += found == (None, None, None)
        self.assertTrue(all(number >= 5 for number in seen), seen)

    def test_exact_machines(self):
        for text, signs, measure, board in CASES:
            machine = exact_machine(text, signs, measure, board)
            self.assertEqual(sum_breaks(Card.read(text), machine, measure, board=board), (None, None, None))
            for row in rows_up_to(signs, 7 if len(signs) == 2 else 4):
                self.assertEqual(machine.value(row), plain_measure(Card.read(text), row, measure, board))

    def test_each_condition_alone(self):
        weights = SumMachine.weights
        self.assertEqual(sum_breaks(Card.read("a=1:"), weights(".a", {"a": 1, ".": 1}), "left"), (".", None, None))
        self.assertEqual(sum_breaks(LEFT, weights(".a", {"a": 1}), "left"), (None, ".aa", None))
        self.assertEqual(sum_breaks(LEFT, SumMachine.zero(".a"), "left"), (None, None, "a"))
        self.assertEqual(sum_breaks(LEFT, weights(".a", {"a": 2}), "left"), ("a", ".aa", None))
        self.assertEqual(sum_breaks(LEFT, weights(".a", {".": -1}), "long"), (".", None, None))
        self.assertEqual(sum_breaks(LEFT, weights(".a", {".": -1, "a": -2}), "long"), (".", ".aa", None))
        self.assertEqual(sum_breaks(LEFT, SumMachine.zero(".a"), "long"), (None, ".aa", None))
        self.assertEqual(sum_breaks(LEFT, weights(".a", {"a": 1}), "long"), (None, None, "a"))

    def test_moves_that_all_have_a_slack(self):
        # right for the rows without a move, and too low for all others
        low = exact_machine("a=1: aa.<.a.", ".a", "left", "row") - exact_machine("a=1: aa.<.a.", ".a", "long", "row")
        self.assertEqual(sum_breaks(LEFT, low, "left"), (None, None, ".aa"))
        self.assertFalse(is_sum_exact(LEFT, low, "left"))

    def test_a_break_in_a_long_row(self):
        row = "a." * 15
        machine = exact_machine("a=1: aa.<.a.", ".a", "left", "row")
        self.assertEqual(sum_breaks(LEFT, machine + bump(".a", row, 1), "left"), (row, None, None))
        found = sum_breaks(LEFT, machine + bump(".a", row, -1), "left")
        self.assertEqual((found[0], len(found[1])), (None, len(row)))

    def test_slacks_that_fall_slowly(self):
        slow = SumMachine(".a", [[1, 1], [1, 1]], [[-40, -40], [1, 1]])
        self.assertEqual(sum_breaks(Card.read("a=1:"), slow, "left"), ("." * 42, None, None))
        huge = SumMachine(".a", [[1, 1], [1, 1]], [[-10**29, -10**29], [1, 1]])
        self.assertFalse(is_sum_exact(Card.read("a=1:"), huge, "left"))
        self.assertIsNone(heights(Card.read("a=1:"), huge, "left"))

    def test_states_that_no_row_reaches(self):
        exact = exact_machine("a=1: aa.<.a.", ".a", "left", "row")
        size = exact.size
        more = SumMachine(".a", [*exact.arrows, [size, size]], [*exact.sums, [99, -99]])
        self.assertTrue(is_sum_exact(LEFT, more, "left"))
        self.assertEqual(heights(LEFT, more, "left"), heights(LEFT, exact, "left"))

    def test_errors_and_their_order(self):
        machine = SumMachine.zero(".a")
        papers = heights(Card.read("a=1:"), machine, "left")
        for call, rest in ((sum_breaks, ()), (is_sum_exact, ()), (heights, ()), (are_heights, (papers,))):
            for signs in (".ab", "a", ".:a"):
                other = SumMachine.zero(signs)
                self.fails(Unlike, "signs", signs, call, LEFT, other, "left", *rest)
                self.fails(Unlike, "signs", signs, call, LEFT, other, "short", *rest)
                self.fails(InvalidBoard, "board", "q", call, LEFT, other, "short", *rest, board="q")
            self.fails(InvalidMeasure, "measure", "short", call, LEFT, machine, "short", *rest)
            self.fails(InvalidMeasure, "measure", "", call, LEFT, machine, "", *rest)
            self.fails(InvalidBoard, "board", "q", call, LEFT, machine, "left", *rest, board="q")


def plain_heights(card, machine, measure, board, most):
    """The least slacks of all rows up to a length."""
    sense = -1 if measure == "long" else 1
    cost = int(measure == "long")
    first, second = {}, {}

    def note(table, key, slack):
        table[key] = min(slack, table.get(key, slack))

    def read(row, configs):
        """configs: the least slack so far of each configuration after the row."""
        p = machine.state(row)
        note(first, p, sense * (plain_base(card, row, measure) - machine.value(row)))
        for config, slack in configs.items():
            note(second, (config, p), slack)
        if len(row) == most:
            return
        for at, sign in enumerate(machine.signs):
            behind = {}
            for config, slack in configs.items():
                for to in plain_onward(card, machine, config, sign):
                    for added in changed_sums(card, machine, config, to, sign):
                        note(behind, to, slack + sense * (added - machine.sums[p][at]))
            read(row + sign, behind)

    read("", {config: sense * cost for config in plain_starts(card, board)})
    return sorted(first.items()), sorted((config, p, height) for (config, p), height in second.items())


def changed_sums(card, machine, config, to, sign):
    """The integers of the arrows that the machine may take beside a step from one configuration to another."""
    found = set()
    for at in range(len(machine.signs)):
        # a machine of which only this arrow leads on shows whether the step takes it
        arrows = [[len(machine.arrows)] * len(machine.signs) for _ in machine.arrows] + [[0] * len(machine.signs)]
        arrows[config[1]][at] = machine.arrows[config[1]][at]
        if to in plain_onward(card, Machine(machine.signs, arrows, []), config, sign):
            found.add(machine.sums[config[1]][at])
    return found


def plain_are_heights(card, machine, measure, papers, board):
    """The conditions on lists of heights, read one by one."""
    sense = -1 if measure == "long" else 1
    cost = int(measure == "long")
    first, second = dict(papers[0]), {(config, p): height for config, p, height in papers[1]}
    if len(first) < len(papers[0]) or len(second) < len(papers[1]):
        return False
    known = plain_configs(card, machine, board)
    if any(p not in range(machine.size) for p in first) or any(
            config not in known or p not in range(machine.size) for config, p in second):
        return False
    if first.get(0, 1) > 0 or any(height < 0 for height in first.values()):
        return False
    if any(second.get((config, 0), 9**9) > sense * cost for config in plain_starts(card, board)):
        return False
    for p, height in first.items():
        for at, sign in enumerate(machine.signs):
            gain = sense * (plain_base(card, sign, measure) - machine.sums[p][at])
            if first.get(machine.arrows[p][at], 9**9) > height + gain:
                return False
    for (config, p), height in second.items():
        if height < 0 and (config[0] == 2 or config[0] == 5 and config[4] == config[3]):
            return False
        for at, sign in enumerate(machine.signs):
            for to in plain_onward(card, machine, config, sign):
                for added in changed_sums(card, machine, config, to, sign):
                    if second.get((to, machine.arrows[p][at]), 9**9) > height + sense * (added - machine.sums[p][at]):
                        return False
    return True


class HeightsTest(LeapTest):
    def some_heights(self):
        """Machines for which the first two conditions hold, with their heights."""
        for card, machine, measure, board in some_machines():
            found = heights(card, machine, measure, board=board)
            self.assertEqual(found is None, sum_breaks(card, machine, measure, board=board)[:2] != (None, None))
            if found is not None:
                yield card, machine, measure, board, found

    def test_heights(self):
        count = 0
        for card, machine, measure, board, found in self.some_heights():
            if len(machine.signs) <= 3 and machine.size <= 5:
                most = 8 if len(machine.signs) == 2 else 6
                self.assertEqual(found, plain_heights(card, machine, measure, board, most))
                self.assertIsInstance(found, tuple)
                self.assertIsInstance(found[0], list)
                count += 1
            self.assertIs(are_heights(card, machine, measure, found, board=board), True)
        self.assertGreater(count, 8)

    def test_a_machine_of_one_state(self):
        # each sign a adds as much as a peg is worth
        machine = SumMachine.weights(".a", {"a": 3})
        self.assertEqual(heights(Card.read("a=3:"), machine, "worth"), ([(0, 0)], [((0, 0, 0, 0, 0), 0, 0)]))
        self.assertEqual(heights(Card.read("a=3:"), SumMachine.zero(".a"), "long"), ([(0, 0)], [((0, 0, 0, 0, 0), 0, -1)]))
        self.assertIsNone(heights(Card.read("a=3:"), SumMachine.weights(".a", {"a": 4}), "worth"))

    def test_every_change(self):
        answers = []
        for text, signs, measure, board in (CASES[0], CASES[3], CASES[6], ("a=2: aa.=..a", ".a", "long", "ring")):
            card = Card.read(text)
            machine = SumMachine.weights(".a", {"a": 1}) if board == "ring" and text != "a=3:" else \
                exact_machine(text, signs, measure, board)
            papers = heights(card, machine, measure, board=board)
            for table in range(2):
                for at, entry in enumerate(papers[table]):
                    for change in ([], [entry, entry], [(*entry[:-1], entry[-1] + 1)], [(*entry[:-1], entry[-1] - 1)]):
                        changed = [list(papers[0]), list(papers[1])]
                        changed[table][at:at + 1] = change
                        found = are_heights(card, machine, measure, tuple(changed), board=board)
                        self.assertIs(found, plain_are_heights(card, machine, measure, changed, board), (table, entry))
                        answers.append(found)
        self.assertTrue(True in answers and False in answers)

    def test_any_order(self):
        for card, machine, measure, board, (first, second) in self.some_heights():
            self.assertTrue(are_heights(card, machine, measure, (first[::-1], tuple(second[::-1])), board=board))

    def test_all_heights_may_be_lower_if_they_are_not_at_an_end(self):
        machine = exact_machine("a=1: aa.<.a.", ".a", "left", "row")
        first, second = heights(LEFT, machine, "left")
        highest = max(height for _, _, height in second)
        self.assertTrue(are_heights(LEFT, machine, "left", (first, second)))
        self.assertFalse(are_heights(LEFT, machine, "left", (first, [(c, p, highest + 1) for c, p, _ in second])))
        self.assertFalse(are_heights(LEFT, machine, "left", ([], second)))
        self.assertFalse(are_heights(LEFT, machine, "left", (first, [])))

    def test_entries_that_no_row_gives(self):
        exact = exact_machine("a=1: aa.<.a.", ".a", "left", "row")
        size = exact.size
        more = SumMachine(".a", [*exact.arrows, [size, size]], [*exact.sums, [0, 1]])
        first, second = heights(LEFT, more, "left")
        done = (2, size, 0, 0, 0)
        self.assertTrue(are_heights(LEFT, more, "left", (first + [(size, 0)], second)))
        self.assertTrue(are_heights(LEFT, more, "left", (first + [(size, 7)], second)))
        self.assertFalse(are_heights(LEFT, more, "left", (first + [(size, -1)], second)))
        self.assertTrue(are_heights(LEFT, more, "left", (first, second + [(done, size, 0)])))
        self.assertFalse(are_heights(LEFT, more, "left", (first, second + [(done, size, -1)])))
        self.assertFalse(are_heights(LEFT, more, "left", (first, second + [((1, size, 0, 0, 1), size, 0)])))

    def test_entries_of_another_form(self):
        machine = exact_machine("a=1: aa.<.a.", ".a", "left", "row")
        first, second = heights(LEFT, machine, "left")
        size = machine.size
        for entry in ((size, 0), (-1, 0), (0,), (0, 0, 0), (), [0, 0], ("0", 0), (0, "0"), (size, None), None, 0):
            self.assertFalse(are_heights(LEFT, machine, "left", (first + [entry], second)), entry)
            if entry != ():
                self.assertFalse(are_heights(LEFT, machine, "left", ([entry], second)), entry)
        done = (2, 0, 0, 0, 0)
        for entry in ((done, size, 9), (done, -1, 9), ((2, size, 0, 0, 0), 0, 9), ((6, 0, 0, 0, 0), 0, 9),
                      ((3, 0, 0, 1, 0), 0, 9), ((5, 0, 0, 1, 1), 0, 9), ((5, 0, 0, 2, 2), 0, 9), (done, 0), (done, 0, "9"),
                      [done, 0, 9], (list(done), 0, 9), None, (), ((2, 0, 0, 0, 1), 0, 9), ((1, 0, 0, 0, 3), 0, 9)):
            self.assertFalse(are_heights(LEFT, machine, "left", (first, second + [entry])), entry)
        self.assertFalse(are_heights(LEFT, machine, "left", (first,)))
        self.assertFalse(are_heights(LEFT, machine, "left", None))

    def test_papers_of_other_boards_and_measures(self):
        card = Card.read("a=1: aa.=..a")
        machine = SumMachine.zero(".a")
        papers = heights(card, machine, "left")
        self.assertTrue(are_heights(card, machine, "left", papers))
        self.assertFalse(are_heights(card, machine, "left", papers, board="ring"))
        self.assertFalse(are_heights(card, machine, "long", papers))
