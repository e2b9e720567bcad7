from random import Random

from leapcard.cards import Card
from leapcard.errors import NoMachine, Unlike
from leapcard.guide import Guide
from leapcard.learn import can_reach, learn
from leapcard.machine import Machine
from leapcard.patterns import pattern
from leapcard.rings import all_turns, ring_gain, unturned
from leapcard.signs import turned
from leapcard.targets import AtMost, OnePeg, Shape
from tests.helpers import LeapTest, least_of, plain_hope, rows_up_to, some_machine

RIGHT = Card.read("a=1: aa.>..a")
LOT = OnePeg().lot_over(".a")


def some_machines():
    yield Machine.read(".a|0,1|2,3!|2,4!|1,4|4,4"), 7
    yield pattern("ab*.", ".ab"), 5
    yield Machine.of_rows("#.:Aa", ["", "a", ":#a.", "A.A.", "aa."]), 4
    yield Machine.nothing(".a"), 3
    yield Machine.everything(".a"), 3
    yield Machine(".", [[1], [2], [3], [0]], [2]), 9
    # states that no row leads to, and a state behind which no row ends
    yield Machine(".a", [[1, 3], [1, 2], [3, 3], [3, 3], [2, 4]], [2, 4]), 5
    random = Random(35)
    for size in (1, 2, 3, 4):
        for signs in (".a", "#.a", ".ab"):
            yield some_machine(random, signs, size), 5


class TurnsTest(LeapTest):
    def test_all_turns(self):
        for machine, most in some_machines():
            turns = all_turns(machine)
            self.assertEqual(turns.signs, machine.signs)
            self.assertEqual(turns, turns.least())
            for row in rows_up_to(machine.signs, most):
                wanted = any(turned(row, by) in machine for by in range(max(len(row), 1)))
                self.assertIs(row in turns, wanted, (str(machine), row))

    def test_unturned(self):
        for machine, most in some_machines():
            wanted = least_of([row for row in rows_up_to(machine.signs, most)
                               if row in machine and turned(row, 1) not in machine])
            found = unturned(machine)
            if wanted is not None or found is None or len(found) <= most:
                self.assertEqual(found, wanted)
            else:
                self.assertTrue(found in machine and turned(found, 1) not in machine)
            self.assertIsNone(unturned(all_turns(machine)))

    def test_machines_without_rows_and_closed_ones(self):
        nothing = Machine.nothing("#.a")
        self.assertEqual(all_turns(nothing), nothing)
        self.assertIsNone(unturned(nothing))
        self.assertEqual(all_turns(LOT), LOT)
        self.assertIsNone(unturned(LOT))
        self.assertEqual(all_turns(Machine.of_rows(".a", [""])), Machine.of_rows(".a", [""]))
        self.assertEqual(all_turns(Machine.of_rows(".a", ["aa."])), Machine.of_rows(".a", ["aa.", "a.a", ".aa"]))

    def test_a_long_row_that_is_not_turned(self):
        self.assertEqual(unturned(Machine.everything(".a") - Machine.of_rows(".a", ["aa.a...a"])), "aaa.a...")
        self.assertEqual(unturned(Machine.of_rows(".a", ["a.", ".a", "aaa", "..a.aa"])), "..a.aa")

    def test_a_lot_that_is_closed_gives_a_machine_that_is_closed(self):
        for lot in (LOT, AtMost(2).lot_over(".a"), AtMost(0).lot_over("#.a")):
            self.assertIsNone(unturned(Guide.of(RIGHT, lot, board="ring", most=80).machine))
        lot = Shape("a.*").lot_over(".a")
        self.assertEqual(unturned(lot), "a.")
        self.assertIsNotNone(unturned(learn(RIGHT, lot, board="ring", most=80).machine))


class RingGainTest(LeapTest):
    def test_where_there_is_such_a_row(self):
        for card, lot in ((RIGHT, LOT), (RIGHT, AtMost(1).lot_over("#.a")), (RIGHT, OnePeg().lot_over(".:Aa")),
                          (Card.read("a=1 b=1: ab.>..b"), AtMost(1, "a").lot_over(".ab")),
                          (Card.read("a=2 b=1: aaa.<...b"), AtMost(2).lot_over(".ab"))):
            row = ring_gain(card, lot, most=60)
            self.assertTrue(plain_hope(card, row, lot, "ring"))
            wanted = least_of([row for row in rows_up_to(lot.signs, len(row))
                               if can_reach(card, row, lot, board="ring") and not can_reach(card, row, lot)])
            self.assertEqual(row, wanted)
        self.assertEqual(ring_gain(RIGHT, LOT, most=27), ".aa")

    def test_a_ring_with_one_wall_is_a_row(self):
        for row in rows_up_to("#.a", 4):
            for end in rows_up_to("#.a", 4):
                lot = Machine.of_rows("#.a", [end])
                closed = Machine.of_rows("#.a", ["#" + end])
                self.assertIs(plain_hope(RIGHT, "#" + row, closed, "ring"), plain_hope(RIGHT, row, lot, "row"))

    def test_where_there_is_none(self):
        for card, lot in ((Card.read("a=1:"), LOT), (RIGHT, Machine.everything(".a")), (RIGHT, Machine.nothing(".a")),
                          (RIGHT, Machine.of_rows(".a", [""]))):
            self.assertIsNone(ring_gain(card, lot))

    def test_too_many_states(self):
        # 5 states for the row, 27 for the ring
        self.fails(NoMachine, "most", 26, ring_gain, RIGHT, LOT, most=26)
        self.fails(NoMachine, "most", 4, ring_gain, RIGHT, LOT, most=4)
        self.fails(NoMachine, "most", 12, ring_gain, RIGHT, LOT)
        # on the row any machine is larger than 3, on the ring a smaller one is enough
        lot = Shape("a.*").lot_over(".a")
        sizes = [learn(RIGHT, lot, board=board, most=80).machine.size for board in ("row", "ring")]
        self.assertIsNotNone(ring_gain(RIGHT, lot, most=max(sizes)))
        for size in sizes:
            self.fails(NoMachine, "most", size - 1, ring_gain, RIGHT, lot, most=size - 1)

    def test_errors(self):
        for signs in (".ab", "a", ".A"):
            self.fails(Unlike, "signs", signs, ring_gain, RIGHT, Machine.everything(signs), most=1)
