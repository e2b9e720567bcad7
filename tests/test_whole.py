"""What holds over the whole program: signs that fit, the order of errors, least machines, copies and limits."""

from leapcard.answers import Found
from leapcard.cards import Card
from leapcard.closed import are_closed, breaks, is_exact, tables
from leapcard.compare import all_of, any_of
from leapcard.configs import next_configs, start_configs
from leapcard.desk import Desk
from leapcard.errors import InvalidBoard, InvalidRow, Unlike
from leapcard.fences import room, unfenced
from leapcard.finding import kept_weights
from leapcard.forbids import forbids, let_through, values_of
from leapcard.growth import best_row, extremes, growth, is_growth
from leapcard.guide import Guide
from leapcard.hidden import Hidden
from leapcard.images import rows_after, rows_before, stuck_rows
from leapcard.jumps import Jump
from leapcard.learn import can_reach, learn, plain_rows
from leapcard.ledger import Ledger
from leapcard.machine import Machine
from leapcard.patterns import pattern
from leapcard.plays import is_play, replay
from leapcard.reach import find_play
from leapcard.rings import all_turns, ring_gain, unturned
from leapcard.shapes import behind, joined, mirrored, narrowed, repeated, widened, with_marks
from leapcard.steps import next_rows
from leapcard.sumcheck import are_heights, heights, is_sum_exact, sum_breaks
from leapcard.sumlearn import learn_sum
from leapcard.sums import SumMachine
from leapcard.sure import free_places, keep_lot, learn_free
from leapcard.targets import Listed, OnePeg
from leapcard.twocards import is_shared, parting, useless
from leapcard.walls import wall_effects
from leapcard.weights import Weights
from tests.helpers import LeapTest, rows_up_to

RIGHT = Card.read("a=1: aa.>..a")
TWO = Card.read("a=1 b=2: bb.=.aa ab.>..b")
LOT = OnePeg().lot_over(".a")
WEIGHTS = Weights(3, 2, [[1, 0, 1], [0, 0, 0]])


def calls_with_a_lot(card, lot):
    """A call for each function that uses a machine or lot together with a card."""
    signs = lot.signs
    values = SumMachine.zero(signs)
    return [
        lambda **more: rows_before(card, lot, **more), lambda **more: rows_after(card, lot, **more),
        lambda **more: stuck_rows(card, signs, **more), lambda **more: start_configs(card, lot, **more),
        lambda **more: breaks(card, lot, lot, **more), lambda **more: is_exact(card, lot, lot, **more),
        lambda **more: tables(card, lot, lot, **more), lambda **more: are_closed(card, lot, lot, ([], [], []), **more),
        lambda **more: can_reach(card, "", lot, **more), lambda **more: plain_rows(card, lot, 1, **more),
        lambda **more: learn(card, lot, most=30, **more), lambda **more: Guide.of(card, lot, most=40, **more),
        lambda **more: sum_breaks(card, values, "long", **more), lambda **more: is_sum_exact(card, values, "left", **more),
        lambda **more: heights(card, values, "left", **more), lambda **more: learn_sum(card, signs, "long", most=2, **more),
        lambda **more: are_heights(card, values, "left", ([], []), **more),
        lambda **more: parting(card, card, lot, most=40, **more), lambda **more: is_shared(card, card, lot, lot, **more),
        lambda **more: useless(card, lot, most=40, **more)]


def calls_without_a_board(card, lot):
    return [lambda: next_configs(card, lot, [], lot.signs[0]), lambda: ring_gain(card, lot, most=40),
            lambda: forbids(WEIGHTS, card, lot, ""), lambda: Ledger(card.worths, card.jumps, lot)]


class SignsThatFitTest(LeapTest):
    def test_the_four_strings_fit(self):
        for card in (RIGHT, TWO):
            for walls in (False, True):
                for marks in (False, True):
                    lot = Machine.everything(card.sign_string(walls=walls, marks=marks))
                    for call in calls_with_a_lot(card, lot) + calls_without_a_board(card, lot):
                        call()

    def test_other_strings_do_not_fit(self):
        for card, strings in ((RIGHT, (".ab", "a", ".", "#a", ".:a", ".Aa", "#.:ABab", ":A")), (TWO, (".a", "#.a", ".b", ".abc"))):
            for signs in strings:
                lot = Machine.everything(signs)
                for call in calls_with_a_lot(card, lot):
                    self.fails(Unlike, "signs", signs, call)
                    for board in ("", "Row", "line"):
                        self.fails(InvalidBoard, "board", board, call, board=board)
                for call in calls_without_a_board(card, lot):
                    self.fails(Unlike, "signs", signs, call)
                self.fails(InvalidBoard, "board", "line", keep_lot, card, signs, board="line")
                self.fails(Unlike, "signs", signs, keep_lot, card, signs)

    def test_every_move_stays_over_such_signs(self):
        for card in (RIGHT, TWO):
            for walls in (False, True):
                for marks in (False, True):
                    signs = card.sign_string(walls=walls, marks=marks)
                    for row in rows_up_to(signs, 4):
                        for board in ("row", "ring"):
                            for after in next_rows(card, row, board=board):
                                self.assertLessEqual(set(after), set(signs))
                                self.assertEqual(len(after), len(row))

    def test_only_the_signs_of_the_machine_count(self):
        # # is a sign of the card, but not of the lot
        self.fails(InvalidRow, "row", "#", can_reach, RIGHT, "#", LOT)
        self.fails(InvalidRow, "row", "#", forbids, WEIGHTS, RIGHT, LOT, "#")
        self.fails(InvalidRow, "row", "A", Desk, Guide.of(RIGHT, LOT), "A")


class LeastTest(LeapTest):
    def test_functions_return_least_machines(self):
        twice = Machine(".a", [[2, 1], [3, 1], [0, 3], [1, 2], [4, 0]], [1, 3])
        walled = Machine("#.a", [[1, 2, 0], [0, 2, 1], [3, 3, 3], [2, 2, 2]], [0, 1])
        found = [twice.least(), twice & twice, twice | twice, twice - twice, twice ^ twice, ~twice, Machine.nothing(".a"),
                 Machine.everything(".a"), Machine.of_rows(".a", ["a", "a.", "a"]), all_of(".a", twice), any_of(".a", twice),
                 all_of(".a"), any_of(".a"), mirrored(twice), joined(twice, twice), repeated(twice), behind(twice, "a."),
                 widened(twice, "#.a"), narrowed(walled, ".a"), with_marks(twice), pattern("(a|a)*.?", ".a"),
                 rows_before(RIGHT, twice), rows_after(RIGHT, walled, board="ring"), stuck_rows(RIGHT, ".a"),
                 learn(RIGHT, twice, most=60).machine if isinstance(learn(RIGHT, twice, most=60), Found) else LOT,
                 SumMachine.zero(".a").at_most(0), unfenced(twice), unfenced(walled, left=False), all_turns(twice),
                 all_turns(walled), keep_lot(RIGHT, ".:Aa"), learn_free(RIGHT).machine,
                 let_through(Weights(2, 3, [[1, 2]]), twice), let_through(Weights(1, 2, [[1]]), walled),
                 OnePeg().lot_over("#.ab"), Listed(["a", "aa"]).lot_over(".a")]
        for machine in found:
            self.assertEqual(machine, machine.least())
            self.assertEqual(str(machine), str(machine.least()))
        self.assertNotEqual(twice, twice.least())


class CopiesTest(LeapTest):
    def test_tuples_are_accepted_for_lists(self):
        jumps = (Jump.read("aa.>..a"), Jump.read("aa.<..a"))
        self.assertEqual(Card((1,), jumps), Card([1], list(jumps)))
        self.assertEqual(Machine(".a", ((0, 1), (1, 1)), (1,)), Machine(".a", [[0, 1], [1, 1]], [1]))
        self.assertEqual(SumMachine(".a", ((0, 0),), ((1, 2),)), SumMachine(".a", [[0, 0]], [[1, 2]]))
        self.assertEqual(Machine.of_rows(".a", ("a", "..")), Machine.of_rows(".a", ["a", ".."]))
        self.assertEqual(replay(RIGHT, "aa.", ((0, 0),)), ["aa.", "..a"])
        self.assertTrue(is_play(RIGHT, "aa.", ((0, 0),), "..a"))
        self.assertEqual(find_play(RIGHT, "aa.", ("..a", "x")), [(0, 0)])
        self.assertEqual(next_configs(RIGHT, LOT, ((0, 0, 0, 0, 0),), "."), [(0, 0, 0, 0, 0)])
        self.assertEqual(Guide.of(RIGHT, LOT).blame("aa.", ((0, 0),)), None)
        self.assertEqual(Weights(2, 0, ((1, 2),)), Weights(2, 0, [[1, 2]]))
        self.assertEqual(Hidden((1,), jumps[:1], jumps[1:]).fits(), [(), (0,)])
        self.assertEqual(Ledger((1,), jumps, LOT).closed(), [])
        paper = growth(SumMachine.zero(".a"))
        self.assertTrue(is_growth(SumMachine.zero(".a"), paper[:4] + (tuple(paper[4]),)))

    def test_machines_and_weights_are_not_changed(self):
        machine = Machine(".a", [[2, 1], [3, 1], [0, 3], [1, 2], [4, 0]], [1, 3])
        text = str(machine)
        values = SumMachine(".a", [[1, 1], [0, 1]], [[1, 2], [3, 4]])
        for call in (unfenced, all_turns, unturned, mirrored, repeated, with_marks):
            call(machine)
        room(machine, "a.a"), values_of(Weights(2, 0, [[1, 2]]), machine, 4), let_through(Weights(2, 3, [[1, 2]]), machine)
        extremes(values, 4), best_row(values, 4), growth(values)
        self.assertEqual((str(machine), values.sums), (text, ((1, 2), (3, 4))))
        card = Card.read("a=1: aa.=..a aa.>..a")
        useless(card, LOT, most=18), kept_weights(card, 3, 2), parting(card, RIGHT, LOT, most=18)
        self.assertEqual(str(card), "a=1: aa.=..a aa.>..a")

    def test_a_desk_does_not_change_its_guide(self):
        guide = Guide.of(RIGHT, LOT)
        text = str(guide.machine), str(guide.lot), str(guide.card), guide.board
        desk = Desk(guide, "aa.a.")
        desk.finish(), desk.back(), desk.lines()
        self.assertEqual((str(guide.machine), str(guide.lot), str(guide.card), guide.board), text)


class LimitsTest(LeapTest):
    def test_rows_of_60_signs_are_played(self):
        row = "aa." + "." * 57
        desk = Desk(Guide.of(RIGHT, LOT), row)
        desk.finish()
        self.assertEqual(desk.present, "..a" + "." * 57)
        hidden = Hidden([1], [Jump.read("aa.>..a")])
        hidden.see(("down", row, desk.present))
        self.assertEqual(hidden.surely_on(), [0])
        ledger = Ledger([1], [Jump.read("aa.>..a")], LOT)
        ledger.tell(("down", row))
        self.assertTrue(ledger.knows(("on", 0)))

    def test_rows_of_400_signs_are_read(self):
        row = "aa." + "." * 397
        guide = Guide.of(RIGHT, LOT)
        self.assertTrue(guide.has_hope(row))
        self.assertEqual(room(guide.machine, row), (0, 0))
        self.assertEqual(len(wall_effects(Machine.everything("#.a"), row)), 401)
        self.assertEqual(free_places(learn_free(RIGHT).machine, row), [0, 1] + list(range(3, 400)))
        self.assertEqual(Weights(1, 0, [[10 ** 30]]).value("a" * 400), 400 * 10 ** 30)

    def test_machines_of_2000_states(self):
        arrows = [[state, (state + 1) % 2000] for state in range(2000)]
        machine = Machine(".a", arrows, [0])
        self.assertIsNone(unturned(machine))
        self.assertEqual(all_turns(machine), machine)
        self.assertEqual(unfenced(machine), machine)
        self.assertEqual(room(machine, "a" * 400), None)
        values = SumMachine(".a", arrows, [[-1, 10 ** 29 + state] for state in range(2000)])
        self.assertTrue(is_growth(values, growth(values)))
        self.assertEqual(extremes(values, 3), (-3, 3 * 10 ** 29 + 3))
