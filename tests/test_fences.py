from random import Random

from leapcard.errors import InvalidMachine, InvalidRow
from leapcard.fences import room, unfenced
from leapcard.machine import Machine
from leapcard.patterns import pattern
from tests.helpers import LeapTest, rows_up_to, some_machine

EXACT = Machine.read(".a|0,1|2,3!|2,4!|1,4|4,4")
ENDS = tuple({"left": left, "right": right} for left in (True, False) for right in (True, False))


def some_machines():
    yield EXACT, 5
    yield pattern("..a.|a...|aa#", "#.a"), 4
    yield Machine.nothing(".a"), 2
    yield Machine.everything(".:Aa"), 2
    yield Machine.read(".|1|2|0!"), 4
    random = Random(34)
    for size in (1, 2, 3, 4, 5):
        for signs in (".a", "#.ab", "."):
            yield some_machine(random, signs, size, 0.3), 3


def plain_rooms(machine, row, left, right):
    """All (sum, before, after) of free places that make the row one of the machine, up to the number of states."""
    most = machine.size
    return [(x + y, x, y) for x in range(most + 1 if left else 1) for y in range(most + 1 if right else 1)
            if "." * x + row + "." * y in machine]


class FencesTest(LeapTest):
    def test_example(self):
        self.assertEqual(room(Machine.read(".a|0,1|2,3!|2,4!|1,4|4,4"), "aa"), (0, 1))

    def test_against_plain_free_places(self):
        for machine, most in some_machines():
            for ends in ENDS:
                wider = unfenced(machine, **ends)
                self.assertEqual(wider.signs, machine.signs)
                self.assertEqual(wider, wider.least())
                for row in rows_up_to(machine.signs, most):
                    rooms = plain_rooms(machine, row, **ends)
                    self.assertIs(row in wider, len(rooms) > 0, (str(machine), row, ends))
                    self.assertEqual(room(machine, row, **ends), min(rooms)[1:] if rooms else None)

    def test_the_four_choices(self):
        both, before, behind = pattern("..a.", ".a"), pattern(".aa", ".a"), pattern("aaa..", ".a")
        cases = ((both, "a", (2, 1), None, None, None), (both, ".a", (1, 1), None, None, None),
                 (both, "..a", (0, 1), None, (0, 1), None), (both, ".a.", (1, 0), (1, 0), None, None),
                 (both, "..a.", (0, 0), (0, 0), (0, 0), (0, 0)), (both, "aa", None, None, None, None),
                 (before, "aa", (1, 0), (1, 0), None, None), (behind, "aaa", (0, 2), None, (0, 2), None))
        for machine, row, *wanted in cases:
            self.assertEqual([room(machine, row), room(machine, row, right=False), room(machine, row, left=False),
                              room(machine, row, left=False, right=False)], wanted)
            for ends, found in zip(({}, {"right": False}, {"left": False}, {"left": False, "right": False}), wanted):
                self.assertIs(row in unfenced(machine, **ends), found is not None)

    def test_the_least_sum_and_then_the_least_before(self):
        machine = Machine.of_rows(".a", ["...a", "a....", ".a.."])
        self.assertEqual(room(machine, "a"), (1, 2))
        self.assertEqual(room(Machine.of_rows(".a", ["..a", ".a.", "a.."]), "a"), (0, 2))
        self.assertEqual(room(Machine.of_rows(".a", ["..a", ".a."]), "a"), (1, 1))
        self.assertEqual(room(Machine.of_rows(".a", [".......", ".."]), ""), (0, 2))

    def test_free_places_up_to_the_number_of_states(self):
        machine = pattern("......a......", ".a")
        self.assertEqual(room(machine, "a"), (6, 6))
        self.assertEqual(room(Machine.read(".a|1,2|0,2|3,2|4,2|5,2|2,2!"), "a"), (0, 3))
        circle = Machine(".a", [[1, 9], [2, 10], [3, 11], [0, 8]] + [[4, 4]] * 4 + [[4, 4], [4, 4], [4, 4], [4, 4]], [11])
        self.assertEqual(room(circle, "a"), (2, 0))

    def test_a_long_row(self):
        self.assertEqual(room(pattern(".*(a+.)*", ".a"), "a." * 199 + "aa"), (0, 1))

    def test_errors(self):
        machine = Machine.everything(":a")
        self.fails(InvalidMachine, "part", "signs", unfenced, machine)
        self.fails(InvalidMachine, "part", "signs", unfenced, machine, left=False, right=False)
        self.fails(InvalidMachine, "part", "signs", room, machine, "a")
        self.fails(InvalidMachine, "part", "signs", room, machine, "xyz")
        for row in ("b", "a#", ":", "ax"):
            for ends in ENDS:
                self.fails(InvalidRow, "row", row, room, EXACT, row, **ends)
