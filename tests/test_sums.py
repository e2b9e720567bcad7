from leapcard.errors import InvalidMachine, InvalidRow, Unlike
from leapcard.machine import Machine
from leapcard.sums import SumMachine
from tests.helpers import LeapTest, rows_up_to

BIG = 10**29
# states 3 and 4 are not reached; states 1 and 2 read on alike
FIVE = SumMachine(".a", [[1, 2], [2, 0], [1, 0], [3, 4], [0, 0]], [[1, -2], [3, BIG], [3, BIG], [7, 7], [0, 1]])
SOME = (FIVE, SumMachine.zero(".a"), SumMachine.weights(".a", {"a": 3}), SumMachine(".a", [[0, 1], [0, 1]], [[0, 2], [0, 5]]),
        SumMachine(".a", [[1, 1], [0, 0]], [[1, 1], [-1, -1]]), SumMachine(".a", [[0, 1], [1, 0]], [[0, 0], [0, 0]]))


def plain_value(machine, row):
    state, total = 0, 0
    for sign in row:
        at = machine.signs.index(sign)
        total += machine.sums[state][at]
        state = machine.arrows[state][at]
    return total


def residuals(machine, most=4):
    """How many kinds of endings' sums there are among short rows."""
    endings = rows_up_to(machine.signs, most)
    return len({tuple(plain_value(machine, row + e) - plain_value(machine, row) for e in endings)
                for row in rows_up_to(machine.signs, most)})


class SumMachineTest(LeapTest):
    def is_least(self, machine):
        """The machine has no state too many, and its states are numbered in breadth-first order."""
        self.assertEqual(machine.size, residuals(machine))
        met = [0]
        for state in met:
            for to in machine.arrows[state]:
                if to not in met:
                    met.append(to)
        self.assertEqual(met, list(range(machine.size)))

    def test_attributes(self):
        self.assertEqual(FIVE.signs, ".a")
        self.assertEqual(FIVE.arrows, ((1, 2), (2, 0), (1, 0), (3, 4), (0, 0)))
        self.assertEqual(FIVE.sums, ((1, -2), (3, BIG), (3, BIG), (7, 7), (0, 1)))
        self.assertEqual(FIVE.size, 5)
        self.assertIsInstance(SumMachine.__dict__["size"], property)

    def test_lists_are_copied(self):
        arrows, sums = [[0, 0]], [[1, 2]]
        machine = SumMachine(".a", arrows, sums)
        arrows[0][0] = 5
        sums[0].append(3)
        sums.append([])
        self.assertEqual((machine.arrows, machine.sums), (((0, 0),), ((1, 2),)))

    def test_state_and_value(self):
        for machine in SOME:
            self.assertEqual((machine.state(""), machine.value("")), (0, 0))
            for row in rows_up_to(".a", 6):
                self.assertEqual(machine.value(row), plain_value(machine, row))
        self.assertEqual(FIVE.state(".."), 2)
        self.assertEqual(FIVE.value(".a."), 1 + BIG + 1)
        self.assertEqual(SumMachine.weights(".a", {"a": 3}).value("a" * 400), 1200)
        for row in ("b", "a#", "A"):
            self.fails(InvalidRow, "row", row, FIVE.state, row)
            self.fails(InvalidRow, "row", row, FIVE.value, row)

    def test_equality(self):
        same = SumMachine(".a", list(FIVE.arrows), list(FIVE.sums))
        self.assertTrue(same == FIVE)
        self.assertFalse(FIVE == FIVE.least())
        self.assertFalse(SumMachine(".b", FIVE.arrows, FIVE.sums) == FIVE)
        self.assertFalse(SumMachine.zero(".a") == SumMachine.weights(".a", {"a": 1}))
        self.assertFalse(SumMachine.zero(".a") == Machine.nothing(".a"))
        self.assertTrue(SumMachine.zero(".a") != 0)
        two = [[1, 2], [1, 2]]
        self.assertFalse(SumMachine(".a", [[0, 1], [1, 0]], two) == SumMachine(".a", [[0, 1], [0, 1]], two))

    def test_wrong_parts(self):
        for signs in ("", "a.", "aa", "x", "ax"):
            self.fails(InvalidMachine, "part", "signs", SumMachine, signs, [], [])
            self.fails(InvalidMachine, "part", "signs", SumMachine.zero, signs)
            self.fails(InvalidMachine, "part", "signs", SumMachine.weights, signs, {"a": 1})
        for arrows in ([], [[0]], [[0, 1]], [[0, -1]], [[0, 0, 0]], [[0, 0], [0]]):
            self.fails(InvalidMachine, "part", "arrows", SumMachine, ".a", arrows, [])
        for sums in ([], [[1]], [[1, 2, 3]], [[1, 2], [1, 2]], [[]]):
            self.fails(InvalidMachine, "part", "sums", SumMachine, ".a", [[0, 0]], sums)
        self.fails(InvalidMachine, "part", "sums", SumMachine, ".a", [[0, 1], [1, 0]], [[1, 2], [1]])

    def test_least(self):
        for machine in SOME:
            least = machine.least()
            self.is_least(least)
            self.assertEqual(least.least(), least)
            for row in rows_up_to(".a", 6):
                self.assertEqual(least.value(row), machine.value(row))
        self.assertEqual(FIVE.least().size, 2)
        self.assertEqual(SOME[4].least().size, 2)
        self.assertEqual(SOME[5].least(), SumMachine.zero(".a"))

    def test_states_that_read_on_alike_later(self):
        # the states 1 and 2 differ only in what the next state but one adds
        machine = SumMachine(".a", [[1, 2], [3, 3], [4, 4], [0, 0], [0, 0]], [[0, 0], [0, 0], [0, 0], [1, 0], [1, 1]])
        self.assertEqual(machine.least().size, 5)
        other = SumMachine(".a", machine.arrows, [[0, 0], [0, 0], [0, 0], [1, 0], [1, 0]])
        self.assertEqual(other.least().size, 3)

    def test_operators(self):
        for first in SOME:
            for second in SOME:
                self.check(first + second, lambda row: first.value(row) + second.value(row))
                self.check(first - second, lambda row: first.value(row) - second.value(row))
            self.check(-first, lambda row: -first.value(row))
            for factor in (0, 1, -3, BIG):
                self.check(first * factor, lambda row: first.value(row) * factor)
            self.assertEqual(first - first, SumMachine.zero(".a"))
            self.assertEqual(first + first, first * 2)
            self.assertEqual(first * 0, SumMachine.zero(".a"))

    def check(self, machine, value):
        self.assertEqual(machine, machine.least())
        for row in rows_up_to(".a", 5):
            self.assertEqual(machine.value(row), value(row))

    def test_operators_leave_their_machines_as_they_were(self):
        before = (FIVE.signs, FIVE.arrows, FIVE.sums)
        other = SumMachine.weights(".a", {".": 1})
        for made in (FIVE + other, other - FIVE, -FIVE, FIVE * 3, FIVE.least()):
            self.assertIsNot(made, FIVE)
        self.assertEqual((FIVE.signs, FIVE.arrows, FIVE.sums), before)
        self.assertEqual(other, SumMachine.weights(".a", {".": 1}))

    def test_unlike_signs(self):
        other = SumMachine.zero("#.a")
        self.fails(Unlike, "signs", "#.a", lambda: FIVE + other)
        self.fails(Unlike, "signs", ".a", lambda: other - FIVE)

    def test_weights(self):
        machine = SumMachine.weights("#.ab", {"a": 2, "b": -5, "c": 9, ".": 1})
        self.assertEqual(str(machine.sums), "((0, 1, 2, -5),)")
        self.assertEqual(machine.value("#a.bb"), -7)
        self.assertEqual(SumMachine.weights(".a", {}), SumMachine.zero(".a"))
        self.assertEqual(SumMachine.zero("#").arrows, ((0,),))


class AtMostTest(LeapTest):
    def test_against_values(self):
        for machine in (SumMachine.weights(".a", {"a": 3, ".": 1}), SumMachine(".a", [[0, 1], [0, 1]], [[0, 2], [0, 5]]),
                        SumMachine(".a", [[1, 1], [2, 2], [2, 2]], [[0, BIG], [0, 0], [1, 0]]), SumMachine.zero(".a")):
            for number in (-1, 0, 1, 2, 7, 20):
                found = machine.at_most(number)
                self.assertEqual(found, found.least())
                for row in rows_up_to(".a", 8):
                    self.assertEqual(row in found, machine.value(row) <= number, (row, number))

    def test_edges(self):
        machine = SumMachine.weights(".a", {"a": 1})
        self.assertEqual(machine.at_most(-1), Machine.nothing(".a"))
        self.assertEqual(str(machine.at_most(0)), ".a|0,1!|1,1")
        self.assertEqual(machine.at_most(20).size, 22)
        self.assertTrue("a" * 20 in machine.at_most(20))
        self.assertFalse("a" * 21 in machine.at_most(20))
        self.assertEqual(SumMachine.zero(".a").at_most(0), Machine.everything(".a"))

    def test_negative_sums(self):
        for machine in (FIVE, SumMachine.weights(".a", {"a": -1}), SOME[4]):
            for number in (-1, 0, 20):
                self.fails(InvalidMachine, "part", "sums", machine.at_most, number)

    def test_negative_sums_that_no_row_takes(self):
        machine = SumMachine(".a", [[0, 0], [1, 1]], [[0, 2], [-1, -1]])
        self.assertEqual(machine.at_most(3), SumMachine.weights(".a", {"a": 2}).at_most(3))
