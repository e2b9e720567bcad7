from leapcard.errors import InvalidMachine, InvalidRow, Unlike
from leapcard.machine import Machine
from leapcard.shapes import behind, joined, mirrored, narrowed, repeated, widened, with_marks
from leapcard.signs import plain, signs_of
from tests.helpers import rows_up_to
from tests.test_machine import LeastTest, some_machines

ROWS = rows_up_to(".a", 6)
WRONG_SIGNS = ("", "a.", "aa", "x", ".ax", " ")


class ShapesTest(LeastTest):
    def test_mirrored(self):
        for machine in some_machines(".a", 30, most=4):
            self.is_least(mirrored(machine), [row for row in ROWS if row[::-1] in machine], 6)
            self.assertEqual(mirrored(mirrored(machine)), machine.least())

    def test_joined(self):
        machines = some_machines(".a", 9, most=3) + [Machine.of_rows(".a", [""]), Machine.nothing(".a")]
        for first in machines:
            for second in machines:
                rows = [row for row in ROWS
                        if any(row[:cut] in first and row[cut:] in second for cut in range(len(row) + 1))]
                self.is_least(joined(first, second), rows, 6)
        self.fails(Unlike, "signs", "#a", joined, machines[0], Machine.everything("#a"))
        self.fails(Unlike, "signs", ".a", joined, Machine.everything("#a"), machines[0])

    def test_repeated(self):
        for machine in some_machines(".a", 30, most=4) + [Machine.of_rows(".a", ["a.", "aa."])]:
            made = {""}
            for row in ROWS[1:]:
                if any(row[:cut] in made and row[cut:] in machine for cut in range(len(row))):
                    made.add(row)
            self.is_least(repeated(machine), [row for row in ROWS if row in made], 6)
        self.assertEqual(repeated(Machine.nothing(".a")), Machine.of_rows(".a", [""]))
        self.assertEqual(repeated(Machine.of_rows(".a", [""])), Machine.of_rows(".a", [""]))

    def test_behind(self):
        for machine in some_machines(".a", 20, most=4):
            for row in ("", "a", ".", "a.a"):
                self.is_least(behind(machine, row), [end for end in ROWS if row + end in machine], 6)
        self.fails(InvalidRow, "row", "ab", behind, Machine.everything(".a"), "ab")

    def test_widened(self):
        for machine in some_machines(".a", 15, most=3):
            rows = [row for row in rows_up_to("#.Aa", 4) if set(row) <= set(".a") and row in machine]
            wide = widened(machine, "#.Aa")
            self.assertEqual(wide.signs, "#.Aa")
            self.is_least(wide, rows, 4)
            self.assertEqual(widened(machine, ".a"), machine.least())
            self.assertEqual(narrowed(wide, ".a"), machine.least())
        machine = Machine.everything(".a")
        for signs in ("#.", ".", "a", "ABC", "#.:ABCD"):
            self.fails(Unlike, "signs", signs, widened, machine, signs)
        for signs in WRONG_SIGNS:
            self.fails(InvalidMachine, "part", "signs", widened, machine, signs)

    def test_narrowed(self):
        for machine in some_machines("#.a", 15, most=4):
            for signs in ("#", ".a", "#a", "#.a"):
                small = narrowed(machine, signs)
                self.assertEqual(small.signs, signs)
                self.is_least(small, [row for row in rows_up_to(signs, 4) if row in machine], 4)
        for signs in (".b", "A", "#.:a", "ab"):
            self.fails(Unlike, "signs", signs, narrowed, Machine.everything(".a"), signs)
        for signs in WRONG_SIGNS:
            self.fails(InvalidMachine, "part", "signs", narrowed, Machine.everything(".a"), signs)

    def test_with_marks(self):
        for kinds, walls, most in ((1, False, 4), (1, True, 3), (2, False, 3), (4, True, 2)):
            signs, wide = signs_of(kinds, walls=walls), signs_of(kinds, walls=walls, marks=True)
            for machine in some_machines(signs, 6, most=3):
                found = with_marks(machine)
                self.assertEqual(found.signs, wide)
                self.is_least(found, [row for row in rows_up_to(wide, most) if plain(row) in machine], most)
        for signs in (".", "a", "#", ".b", "#a", ".ac", ".:Aa", "#.:Aa", ".:a", "#.abd", "abcd"):
            self.fails(Unlike, "signs", signs, with_marks, Machine.everything(signs))

    def test_machines_do_not_change(self):
        machine = Machine.read(".a|2,1|1,0!|2,2|3,3!")
        for call in (mirrored, repeated, with_marks):
            call(machine)
        joined(machine, machine), behind(machine, "a"), widened(machine, "#.a"), narrowed(machine, "a")
        self.assertEqual(str(machine), ".a|2,1|1,0!|2,2|3,3!")
