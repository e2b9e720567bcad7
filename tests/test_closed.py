from leapcard.cards import Card
from leapcard.closed import are_closed, breaks, is_exact, tables
from leapcard.configs import start_configs
from leapcard.errors import InvalidBoard, Unlike
from leapcard.machine import Machine
from leapcard.patterns import pattern
from leapcard.targets import AtMost, OnePeg, PegAt
from tests.helpers import LeapTest, least_of, plain_next, plain_reached, rows_up_to
from tests.plain_configs import plain_configs, plain_good, plain_onward, plain_starts

RIGHT = Card.read("a=1: aa.>..a")
EXACT = Machine.read(".a|0,1|2,3!|2,4!|1,4|4,4")
LOT = OnePeg().lot_over(".a")
BOARDS = ("row", "ring")


def plain_breaks(card, machine, lot, board, rows):
    """The three breaks among these rows."""
    first = [row for row in rows if row in lot and row not in machine]
    second = [row for row in rows if row in machine and row not in lot
              and not any(after in machine for after in plain_next(card, row, board))]
    third = [row for row in rows if row not in machine
             and any(after in machine for after in plain_next(card, row, board))]
    return least_of(first), least_of(second), least_of(third)


def short(found, most):
    """The breaks, without those that are longer than most."""
    return tuple(row if row is None or len(row) <= most else None for row in found)


def some_machines():
    """Cards, machines and lots: exact ones, ones that are wrong about one row, and quite wrong ones."""
    yield RIGHT, EXACT, LOT
    for row in ("", "a", "..", "aa.", ".aa", "a.aa", "aa.a."):
        yield RIGHT, EXACT ^ Machine.of_rows(".a", [row]), LOT
    both = Card.read("a=1: aa.=..a")
    for shape in ("_*", ".*a.*", ".*", "(a|.)_*", "@*"):
        yield both, pattern(shape, ".a"), LOT
        yield both, pattern(shape, ".a"), AtMost(2).lot_over(".a")
    mixed = Card.read("a=1 b=3: ab.>..b bb.=.aa")
    for shape in ("_*b_*", "(#|.|a)*", ".*_.*"):
        yield mixed, pattern(shape, "#.ab"), OnePeg("a").lot_over("#.ab")
    yield both, pattern("_*A_*", ".:Aa"), PegAt().lot_over(".:Aa")
    yield Card.read("a=1:"), pattern(".*a.*", ".a"), LOT
    yield Card.read("a=1:"), pattern(".*a?.*", ".a"), LOT


class BreaksTest(LeapTest):
    def test_against_all_short_rows(self):
        for card, machine, lot in some_machines():
            most = 9 if len(machine.signs) == 2 else 5
            rows = rows_up_to(machine.signs, most)
            for board in BOARDS:
                found = breaks(card, machine, lot, board=board)
                self.assertIsInstance(found, tuple)
                self.assertEqual(short(found, most), plain_breaks(card, machine, lot, board, rows))
                self.assertIs(is_exact(card, machine, lot, board=board), found == (None, None, None))

    def test_the_shortest_break_is_as_short_as_the_shortest_wrong_row(self):
        for card, machine, lot in some_machines():
            rows = rows_up_to(machine.signs, 8 if len(machine.signs) == 2 else 4)
            for board in BOARDS:
                wrong = [row for row in rows
                         if (row in machine) != any(end in lot for end in plain_reached(card, row, board))]
                found = [row for row in breaks(card, machine, lot, board=board) if row is not None]
                if wrong:
                    self.assertEqual(min(map(len, found)), min(map(len, wrong)))
                elif found:
                    self.assertGreater(min(map(len, found)), len(rows[-1]))

    def test_exact_machines(self):
        self.assertEqual(breaks(RIGHT, EXACT, LOT), (None, None, None))
        self.assertIs(is_exact(RIGHT, EXACT, LOT), True)
        self.assertEqual(breaks(RIGHT, EXACT, LOT, board="ring"), (None, None, ".aa"))
        self.assertIs(is_exact(RIGHT, EXACT, LOT, board="ring"), False)

    def test_a_machine_that_need_not_be_least(self):
        twice = Machine(".a", [[0, 1], [7, 8], [2, 4], [1, 4], [4, 4], [5, 6], [7, 8], [7, 4], [6, 9], [9, 9]],
                        [7, 2, 1, 6])
        self.assertEqual(twice.least(), EXACT)
        self.assertTrue(is_exact(RIGHT, twice, LOT))
        self.assertTrue(are_closed(RIGHT, twice, LOT, tables(RIGHT, twice, LOT)))

    def test_each_condition_alone(self):
        none = Machine.nothing(".a")
        self.assertEqual(breaks(RIGHT, none, LOT), ("a", None, None))
        self.assertEqual(breaks(RIGHT, Machine.everything(".a"), LOT), (None, "", None))
        self.assertEqual(breaks(RIGHT, LOT, LOT), (None, None, "aa."))
        self.assertEqual(breaks(RIGHT, EXACT | Machine.of_rows(".a", [".."]), LOT), (None, "..", None))

    def test_wrong_about_a_long_row(self):
        row = "aa.a.a.a.a.a.a.a.a.a.a.a.a.a.."
        self.assertEqual(breaks(RIGHT, EXACT ^ Machine.of_rows(".a", [row]), LOT), (None, None, row))
        row = "." * 25 + "aa"
        self.assertEqual(breaks(RIGHT, EXACT ^ Machine.of_rows(".a", [row]), LOT)[1], row)

    def test_errors(self):
        papers = tables(RIGHT, EXACT, LOT)
        for call, rest in ((breaks, ()), (is_exact, ()), (tables, ()), (are_closed, (papers,))):
            for signs in (".ab", "a", ".:a"):
                other = Machine.everything(signs)
                self.fails(Unlike, "signs", signs, call, RIGHT, other, LOT, *rest)
                self.fails(Unlike, "signs", signs, call, RIGHT, other, Machine.everything("#.d"), *rest)
                self.fails(Unlike, "signs", signs, call, RIGHT, EXACT, other, *rest)
                self.fails(InvalidBoard, "board", "ro", call, RIGHT, other, LOT, *rest, board="ro")
            for signs in ("#.a", ".:Aa", "#.:Aa"):
                other = Machine.everything(signs)
                self.fails(Unlike, "signs", signs, call, RIGHT, EXACT, other, *rest)
                self.fails(Unlike, "signs", ".a", call, RIGHT, other, LOT, *rest)
            self.fails(InvalidBoard, "board", "ringrow", call, RIGHT, EXACT, LOT, *rest, board="ringrow")


def plain_tables(card, machine, lot, board):
    """The tables, from reading one sign behind each entry that was met."""
    start = (0, 0, frozenset(plain_starts(card, board)))
    second, queue = {start}, [start]
    third = {(config, 0) for config in start[2]}
    for p, t, configs in queue:
        for at, sign in enumerate(machine.signs):
            behind = frozenset(to for config in configs for to in plain_onward(card, machine, config, sign))
            entry = (machine.arrows[p][at], lot.arrows[t][at], behind)
            third |= {(config, entry[0]) for config in behind}
            if entry not in second:
                second.add(entry)
                queue.append(entry)
    first = sorted({(t, p) for p, t, _ in second})
    return first, sorted((p, t, tuple(sorted(configs))) for p, t, configs in second), sorted(third)


class TablesTest(LeapTest):
    def test_tables(self):
        for card, machine, lot in some_machines():
            for board in BOARDS:
                found = tables(card, machine, lot, board=board)
                self.assertIsInstance(found, tuple)
                self.assertEqual([type(table) for table in found], [list, list, list])
                self.assertEqual(found, plain_tables(card, machine, lot, board))

    def test_tables_are_closed_if_the_machine_is_exact(self):
        for card, machine, lot in some_machines():
            for board in BOARDS:
                papers = tables(card, machine, lot, board=board)
                exact = is_exact(card, machine, lot, board=board)
                self.assertIs(are_closed(card, machine, lot, papers, board=board), exact)
        self.assertFalse(are_closed(RIGHT, EXACT, LOT, tables(RIGHT, EXACT, LOT), board="ring"))

    def test_order_doubles_and_tuples(self):
        first, second, third = tables(RIGHT, EXACT, LOT)
        papers = (first[::-1] + first, tuple(second[::-1] + second[:3]), third[3:] + third)
        copy = tuple(list(table) for table in papers)
        self.assertTrue(are_closed(RIGHT, EXACT, LOT, papers))
        self.assertEqual(tuple(list(table) for table in papers), copy)
        self.assertTrue(are_closed(RIGHT, EXACT, LOT, [first, second, third]))

    def test_every_entry_is_needed(self):
        papers = tables(RIGHT, EXACT, LOT)
        for number, table in enumerate(papers):
            for at in range(len(table)):
                fewer = list(papers)
                fewer[number] = table[:at] + table[at + 1:]
                self.assertFalse(are_closed(RIGHT, EXACT, LOT, tuple(fewer)), (number, at))

    def test_empty_tables(self):
        first, second, third = tables(RIGHT, EXACT, LOT)
        for papers in (([], second, third), (first, [], third), (first, second, []), ([], [], [])):
            self.assertFalse(are_closed(RIGHT, EXACT, LOT, papers))

    def test_an_entry_that_no_row_gives_and_that_is_closed(self):
        # state 5 is not reached; what is read from it stays at it
        more = Machine(".a", [*EXACT.arrows, [5, 5]], [*EXACT.finals, 5])
        lot = Machine(".a", [*LOT.arrows, [3, 3]], [*LOT.finals, 3])
        self.assertEqual((EXACT.size, LOT.size), (5, 3))
        first, second, third = tables(RIGHT, more, lot)
        self.assertTrue(are_closed(RIGHT, more, lot, (first, second, third)))
        self.assertTrue(are_closed(RIGHT, more, lot, (first + [(3, 5)], second, third)))
        self.assertTrue(are_closed(RIGHT, more, lot, (first + [(2, 5)], second, third)))
        self.assertFalse(are_closed(RIGHT, more, lot, (first + [(3, 4)], second, third)))
        self.assertFalse(are_closed(RIGHT, more, lot, (first + [(0, 5)], second, third)))
        self.assertTrue(are_closed(RIGHT, more, lot, (first, second + [(5, 3, ())], third)))
        self.assertFalse(are_closed(RIGHT, more, lot, (first, second + [(5, 2, ())], third)))
        self.assertTrue(are_closed(RIGHT, more, lot, (first, second + [(5, 2, ((2, 5, 0, 0, 0),))], third)))
        self.assertFalse(are_closed(RIGHT, more, lot, (first, second + [(5, 2, ((2, 2, 0, 0, 0),))], third)))
        self.assertFalse(are_closed(RIGHT, more, lot, (first, second + [(5, 2, ((2, 4, 0, 0, 0),))], third)))
        self.assertTrue(are_closed(RIGHT, more, lot, (first, second + [(5, 3, ((2, 4, 0, 0, 0),))], third)))
        self.assertTrue(are_closed(RIGHT, more, lot, (first, second, third + [((2, 5, 0, 0, 0), 5)])))
        self.assertFalse(are_closed(RIGHT, more, lot, (first, second, third + [((2, 5, 0, 0, 0), 4)])))
        self.assertFalse(are_closed(RIGHT, more, lot, (first, second, third + [((1, 5, 0, 0, 1), 5)])))
        self.assertTrue(are_closed(RIGHT, more, lot, (first, second, third + [((1, 5, 0, 0, 1), 5),
                                                                              ((1, 5, 0, 0, 2), 5),
                                                                              ((2, 5, 0, 0, 0), 5)])))

    def test_an_empty_tuple_of_configurations(self):
        lost = (4, 2, ())
        first, second, third = tables(RIGHT, EXACT, LOT)
        self.assertEqual((EXACT.arrows[4], LOT.arrows[2]), ((4, 4), (2, 2)))
        self.assertTrue(are_closed(RIGHT, EXACT, LOT, (first, second + [lost], third)))
        self.assertFalse(are_closed(RIGHT, EXACT, LOT, (first, second + [(0, 0, ())], third)))

    def test_entries_of_another_form(self):
        first, second, third = tables(RIGHT, EXACT, LOT)
        for entry in ((3, 0), (0, 5), (-1, 0), (0, -1), (0,), (0, 0, 0), (), [0, 0], 0, "00", (0, "0"), (None, 0), None):
            self.assertFalse(are_closed(RIGHT, EXACT, LOT, (first + [entry], second, third)), entry)
        start = ((0, 0, 0, 0, 0),)
        for entry in ((5, 0, start), (0, 3, start), (0, 0, start + start), (0, 0, start[0]), (0, 0, list(start)), (0, 0),
                      (0, 0, start, 0), (0, -1, ()), (4, 2, ((2, 4, 0, 0, 0), (1, 4, 0, 0, 1))), [0, 0, start], None,
                      (4, 2, ((2, 4, 0, 0, 0), (2, 4, 0, 0, 0))), (4, 2, ((2, 4, 0, 0),)), (4, 2, None)):
            self.assertFalse(are_closed(RIGHT, EXACT, LOT, (first, second + [entry], third)), entry)
        for entry in ((start[0], 5), (start[0], -1), (start[0],), (start, 0), (start[0], 0, 0), [start[0], 0], 7, ()):
            self.assertFalse(are_closed(RIGHT, EXACT, LOT, (first, second, third + [entry])), entry)
        self.assertFalse(are_closed(RIGHT, EXACT, LOT, (first, second)))

    def test_configurations_that_the_board_does_not_have(self):
        wrong = [(0, 4, 0, 0, 1), (0, 4, 1, 0, 0), (0, 5, 0, 0, 0), (0, -1, 0, 0, 0), (1, 4, 0, 0, 0), (1, 4, 0, 0, 3),
                 (1, 4, 1, 0, 1), (1, 4, 0, 1, 1), (1, 4, -1, 0, 1), (2, 4, 0, 0, 1), (2, 4, 0, 1, 0), (6, 4, 0, 0, 0),
                 (-1, 4, 0, 0, 0), (2, 4, 0, 0), (2, 4, 0, 0, 0, 0), (2, 4, 0, 0, "0"), [2, 4, 0, 0, 0],
                 ("2", 4, 0, 0, 0), (2, "4", 0, 0, 0), (1, 4, "0", 0, 1), (1, 4, 0, "0", 1), (1, 4, 0, 0, None)]
        for_rings = [(3, 4, 0, 1, 0), (3, 4, 0, 1, 1), (4, 4, 0, 1, 0), (5, 4, 0, 1, 1), (5, 4, 0, 2, 1)]
        wrong_on_rings = [(3, 4, 0, 1, 2), (3, 4, 0, 2, 1), (3, 4, 0, 0, 0), (3, 4, 0, 3, 0), (4, 4, 0, 1, 1),
                          (4, 4, 0, 0, 0), (4, 4, 0, 3, 0), (5, 4, 0, 1, 0), (5, 4, 0, 1, 2), (5, 4, 1, 1, 1)]
        self.no_such_configurations("row", wrong + for_rings)
        self.no_such_configurations("ring", wrong + wrong_on_rings)

    def no_such_configurations(self, board, configs):
        """Entries with these configurations are refused, and would be taken if they were not."""
        # a machine of no rows is exact for a lot of no rows
        machine, lot = Machine(".a", [[0, 0], [1, 1], [2, 2], [3, 3], [4, 4]], []), Machine.nothing(".a")
        first, second, third = tables(RIGHT, machine, lot, board=board)
        third = third + [(config, 4) for config in plain_configs(RIGHT, machine, board) if config[1] == 4]
        self.assertTrue(are_closed(RIGHT, machine, lot, (first, second, third), board=board))
        for config in configs:
            added = [(found, 4) for found in self.all_behind(machine, config)]
            self.assertFalse(are_closed(RIGHT, machine, lot, (first, second, third + added), board=board), config)
            entries = [(4, 0, ()), (4, 0, (config,))]
            self.assertFalse(are_closed(RIGHT, machine, lot, (first, second + entries, third), board=board), config)

    def all_behind(self, machine, config):
        """A configuration and all those that would be read behind it if there were such a one."""
        found = [config]
        for here in found:
            try:
                behind = [to for sign in ".a" for to in plain_onward(RIGHT, machine, here, sign)]
            except (IndexError, TypeError, ValueError):
                continue
            found += [to for to in behind if to not in found]
        return found

    def test_configurations_that_the_board_has(self):
        machine, lot = Machine(".a", [[0, 0], [1, 1], [2, 2], [3, 3], [4, 4]], []), Machine.nothing(".a")
        for board, more in (("row", []), ("ring", [(5, 4, 0, 1, 1), (5, 4, 0, 2, 2)])):
            first, second, third = tables(RIGHT, machine, lot, board=board)
            for config in [(2, 4, 0, 0, 0)] + more:
                states = [(config, 4)]
                self.assertTrue(are_closed(RIGHT, machine, lot, (first, second, third + states), board=board), config)
            entries = [(4, 0, ((2, 4, 0, 0, 0),))]
            self.assertTrue(are_closed(RIGHT, machine, lot, (first, second + entries, third), board=board))

    def test_bad_entries(self):
        for machine in (Machine.nothing(".a"), Machine.everything(".a"), LOT, EXACT ^ Machine.of_rows(".a", ["aa.a."])):
            for board in BOARDS:
                papers = tables(RIGHT, machine, LOT, board=board)
                self.assertFalse(are_closed(RIGHT, machine, LOT, papers, board=board))

    def test_each_start_configuration_is_needed(self):
        card = Card.read("a=1: aa.=..a")
        machine = Machine.nothing(".a")
        first, second, third = tables(card, machine, machine, board="ring")
        self.assertTrue(are_closed(card, machine, machine, (first, second, third), board="ring"))
        for config in start_configs(card, machine, board="ring"):
            fewer = [entry for entry in third if entry != (config, 0)]
            self.assertFalse(are_closed(card, machine, machine, (first, second, fewer), board="ring"))

    def test_a_card_without_jumps(self):
        card = Card.read("a=1:")
        lot = pattern("a.*", ".a")
        papers = tables(card, lot, lot, board="ring")
        self.assertEqual(papers[2], [((0, p, 0, 0, 0), p) for p in range(lot.size)])
        self.assertTrue(are_closed(card, lot, lot, papers, board="ring"))
