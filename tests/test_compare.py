from leapcard.compare import all_of, any_of, first_difference, first_outside
from leapcard.errors import InvalidMachine, Unlike
from leapcard.machine import Machine
from tests.helpers import rows_up_to
from tests.test_machine import LeastTest, some_machines


class CompareTest(LeastTest):
    def test_first_rows(self):
        machines = some_machines(".a", 14, most=3)
        rows = rows_up_to(".a", 8)
        for first in machines:
            for second in machines:
                outside = [row for row in rows if row in first and row not in second]
                other = [row for row in rows if (row in first) != (row in second)]
                self.assertEqual(first_outside(first, second), outside[0] if outside else None)
                self.assertEqual(first_difference(first, second), other[0] if other else None)

    def test_ends_of_the_scale(self):
        nothing, everything = Machine.nothing(".a"), Machine.everything(".a")
        self.assertIsNone(first_outside(nothing, everything))
        self.assertEqual(first_outside(everything, nothing), "")
        self.assertEqual(first_difference(nothing, everything), "")
        self.assertIsNone(first_difference(everything, everything))
        self.assertEqual(first_outside(Machine.of_rows(".a", ["a.", ".aa", "."]), Machine.of_rows(".a", ["."])), "a.")

    def test_unlike_signs(self):
        first, second = Machine.everything(".a"), Machine.everything("#a")
        for call in (first_outside, first_difference):
            self.fails(Unlike, "signs", "#a", call, first, second)
            self.fails(Unlike, "signs", ".a", call, second, first)


class AllAndAnyTest(LeastTest):
    def test_no_machine(self):
        self.assertEqual(all_of("#.a"), Machine.everything("#.a"))
        self.assertEqual(any_of("#.a"), Machine.nothing("#.a"))

    def test_one_machine(self):
        for machine in some_machines(".a", 10):
            self.assertEqual(all_of(".a", machine), machine.least())
            self.assertEqual(any_of(".a", machine), machine.least())

    def test_several_machines(self):
        for seed in range(20):
            machines = some_machines(".a", 3, most=3, seed=seed)
            rows = rows_up_to(".a", 7)
            self.is_least(all_of(".a", *machines), [row for row in rows if all(row in one for one in machines)], 7)
            self.is_least(any_of(".a", *machines), [row for row in rows if any(row in one for one in machines)], 7)

    def test_wrong_signs(self):
        right, other, third = Machine.everything(".a"), Machine.everything("#a"), Machine.everything("ab")
        for call in (all_of, any_of):
            for signs in ("", "a.", "x", ".aa"):
                self.fails(InvalidMachine, "part", "signs", call, signs)
                self.fails(InvalidMachine, "part", "signs", call, signs, right)
            self.fails(Unlike, "signs", "#a", call, ".a", right, other, third)
            self.fails(Unlike, "signs", "ab", call, ".a", third, other)
            self.fails(Unlike, "signs", ".a", call, "a", right)
