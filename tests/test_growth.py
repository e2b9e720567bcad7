from math import gcd
from random import Random

from leapcard.growth import best_row, extremes, growth, is_growth
from leapcard.sums import SumMachine
from tests.helpers import LeapTest, rows_of

BIG = 10 ** 29


def some_machines():
    """Sum machines of many kinds; some have states that no row leads to."""
    yield SumMachine.zero(".a")
    yield SumMachine.weights(".ab", {"a": 1, "b": -2})
    yield SumMachine.weights("#.a", {"#": -3, ".": -2, "a": -2})
    yield SumMachine(".", [[1], [2], [0]], [[1], [0], [1]])
    yield SumMachine(".a", [[1, 1], [1, 1], [2, 2]], [[9, 9], [-4, -5], [100, 100]])
    yield SumMachine(".a", [[1, 0], [0, 1]], [[BIG, -BIG], [BIG + 1, 3 - BIG]])
    random = Random(33)
    for size in (1, 2, 3, 4, 5, 6):
        for signs in (".a", ".", "#.:Aa"):
            arrows = [[random.randrange(size) for _ in signs] for _ in range(size)]
            for high in (1, 9, BIG):
                sums = [[random.randrange(-high, high + 1) for _ in signs] for _ in range(size)]
                yield SumMachine(signs, arrows, sums)


def states_met(machine):
    """The states that rows lead to."""
    found = [0]
    for state in found:
        found += [to for to in dict.fromkeys(machine.arrows[state]) if to not in found]
    return found


def walk_greatest(machine, start, length):
    """The greatest sum of a walk of this length from a state, by its end."""
    best = {start: 0}
    for _ in range(length):
        further = {}
        for state, total in best.items():
            for to, carried in zip(machine.arrows[state], machine.sums[state]):
                further[to] = max(total + carried, further.get(to, total + carried))
        best = further
    return best


def greatest_mean(machine):
    """The greatest mean of a closed walk: (sum, length). Closed walks that meet no state twice are enough."""
    found = []
    for start in states_met(machine):
        for length in range(1, len(machine.arrows) + 1):
            best = walk_greatest(machine, start, length)
            if start in best:
                found.append((best[start], length))
    top, bottom = found[0]
    for total, length in found:
        if total * bottom > top * length:
            top, bottom = total, length
    return top, bottom


class ValuesTest(LeapTest):
    def test_example(self):
        self.assertEqual(extremes(SumMachine.weights(".ab", {"a": 1, "b": -2}), 3), (-6, 3))

    def test_against_all_short_rows(self):
        for machine in some_machines():
            for length in range(6 if len(machine.signs) < 4 else 4):
                values = [(machine.value(row), row) for row in rows_of(machine.signs, length)]
                least, greatest = min(values)[0], max(values)[0]
                self.assertEqual(extremes(machine, length), (least, greatest))
                rows = [row for value, row in values if value == greatest]
                self.assertEqual(best_row(machine, length), min(rows))

    def test_several_rows_with_the_greatest_value(self):
        self.assertEqual(best_row(SumMachine.zero(".ab"), 4), "....")
        self.assertEqual(best_row(SumMachine.weights("#.a", {"#": 1, "a": 1}), 3), "###")
        # the first sign that looks best is not the one of the best row
        machine = SumMachine(".a", [[1, 2], [1, 1], [2, 2]], [[5, 0], [0, 0], [1, 4]])
        self.assertEqual([best_row(machine, length) for length in range(4)], ["", ".", "..", "aaa"])

    def test_lengths_0_and_200(self):
        machine = SumMachine.weights(".ab", {"a": BIG, "b": -2})
        self.assertEqual(extremes(machine, 0), (0, 0))
        self.assertEqual(best_row(machine, 0), "")
        self.assertEqual(extremes(machine, 200), (-400, 200 * BIG))
        self.assertEqual(best_row(machine, 200), "a" * 200)
        self.assertEqual(extremes(SumMachine(".", [[1], [0]], [[3], [-1]]), 200), (200, 200))
        self.assertEqual(extremes(SumMachine(".", [[1], [0]], [[3], [-1]]), 231), (233, 233))

    def test_nothing_is_changed(self):
        machine = SumMachine(".a", [[1, 0], [0, 1]], [[1, 2], [3, -4]])
        extremes(machine, 5), best_row(machine, 5), growth(machine)
        self.assertEqual(machine, SumMachine(".a", [[1, 0], [0, 1]], [[1, 2], [3, -4]]))


class GrowthTest(LeapTest):
    def check_paper(self, machine, paper):
        """All that point 33 says of what growth returns."""
        self.assertIsInstance(paper, tuple)
        top, bottom, start, loop, heights = paper
        self.assertIsInstance(heights, list)
        self.assertEqual(gcd(top, bottom), 1)
        self.assertGreaterEqual(bottom, 1)
        total, length = greatest_mean(machine)
        self.assertEqual(top * length, total * bottom)
        self.assertTrue(loop)
        self.assertEqual(machine.state(start + loop), machine.state(start))
        self.assertEqual(bottom * (machine.value(start + loop) - machine.value(start)), top * len(loop))
        self.assertEqual(len(heights), machine.size)
        self.assertEqual(heights[0], 0)
        for state in states_met(machine):
            for to, carried in zip(machine.arrows[state], machine.sums[state]):
                self.assertLessEqual(bottom * carried + heights[to], top + heights[state])
        self.assertIs(is_growth(machine, paper), True)

    def test_growth(self):
        for machine in some_machines():
            self.check_paper(machine, growth(machine))

    def test_greatest_values_keep_to_the_rate(self):
        for machine in some_machines():
            top, bottom, start, loop, heights = growth(machine)
            for row in rows_of(machine.signs, 4 if len(machine.signs) < 4 else 3):
                self.assertLessEqual(bottom * machine.value(row), top * len(row) - heights[machine.state(row)])
            longer = start + 3 * loop
            self.assertEqual(bottom * (machine.value(longer) - machine.value(start)), 3 * top * len(loop))

    def test_rates(self):
        self.assertEqual(growth(SumMachine.zero(".a"))[:2], (0, 1))
        self.assertEqual(growth(SumMachine.weights(".a", {".": -3, "a": -2}))[:2], (-2, 1))
        self.assertEqual(growth(SumMachine(".", [[1], [2], [0]], [[1], [0], [1]]))[:2], (2, 3))
        self.assertEqual(growth(SumMachine(".", [[1], [2], [0]], [[-1], [0], [-3]]))[:2], (-4, 3))
        self.assertEqual(growth(SumMachine(".", [[1], [0]], [[BIG], [1 - 3 * BIG]]))[:2], (1 - 2 * BIG, 2))

    def test_states_that_no_row_leads_to(self):
        machine = SumMachine(".a", [[1, 1], [1, 1], [2, 2]], [[9, 9], [-4, -5], [100, 100]])
        top, bottom, start, loop, heights = growth(machine)
        self.assertEqual((top, bottom), (-4, 1))
        for height in (-BIG, -1, 0, 7, BIG):
            self.assertTrue(is_growth(machine, (top, bottom, start, loop, heights[:2] + [height])))

    def test_a_large_machine(self):
        random = Random(34)
        arrows = [[(state + 1) % 2000, random.randrange(2000)] for state in range(2000)]
        machine = SumMachine(".a", arrows, [[random.randrange(100) for _ in ".a"] for _ in range(2000)])
        self.assertTrue(is_growth(machine, growth(machine)))
        line = SumMachine(".", [[min(state + 1, 1999)] for state in range(2000)], [[state % 7] for state in range(2000)])
        self.assertEqual(growth(line)[:2], (1999 % 7, 1))
        self.assertTrue(is_growth(line, growth(line)))

    def test_a_returned_list_may_be_changed(self):
        machine = SumMachine(".", [[1], [2], [0]], [[1], [0], [1]])
        growth(machine)[4][1] = 99
        self.check_paper(machine, growth(machine))


class IsGrowthTest(LeapTest):
    # p0 -a-> p1 carries 3, p1 -.-> p0 carries 2; everything else leads to where nothing is carried
    MACHINE = SumMachine(".a", [[2, 1], [0, 2], [2, 2], [0, 0]], [[0, 3], [2, 0], [0, 0], [50, 60]])
    PAPER = (5, 2, "", "a.", [0, -1, 4, 0])

    def holds(self, *paper):
        return is_growth(self.MACHINE, paper)

    def test_right_papers(self):
        self.assertTrue(is_growth(self.MACHINE, growth(self.MACHINE)))
        self.assertTrue(is_growth(self.MACHINE, self.PAPER))
        self.assertTrue(self.holds(5, 2, "", "a.", (0, -1, 4, 0)))
        self.assertTrue(self.holds(5, 2, "a.a.", "a.a.", [0, -1, -20, 7]))
        self.assertTrue(self.holds(5, 2, "a", ".a", [0, -1, 3, 0]))

    def test_one_thing_changed(self):
        top, bottom, start, loop, heights = self.PAPER
        for wrong in ((6, 2), (4, 2), (5, 3), (5, 1), (10, 4), (-5, -2), (5, 0), (0, 0), (-5, 2), (5, -2), (15, 6)):
            self.assertIs(self.holds(*wrong, start, loop, heights), False, wrong)
        for wrong in ("a", ".", "a.a", "b", "#", "a.b"):
            self.assertIs(self.holds(top, bottom, wrong, loop, heights), False, wrong)
        for wrong in ("", "a", ".a", "a..", "..", "a.b", "b", "aa"):
            self.assertIs(self.holds(top, bottom, start, wrong, heights), False, wrong)
        for wrong in ([0, 0, 4, 0], [0, -2, 4, 0], [0, -1, 5, 0], [1, 0, 5, 1], [0, -1, 4], [0, -1, 4, 0, 0], []):
            self.assertIs(self.holds(top, bottom, start, loop, wrong), False, wrong)

    def test_a_lower_rate_that_a_loop_has(self):
        self.assertFalse(self.holds(0, 1, ".", ".", [0, 0, 0, 0]))
        self.assertFalse(self.holds(3, 1, "", "a.", [0, 0, -3, 0]))

    def test_a_loop_with_the_mean_that_does_not_lead_back(self):
        machine = SumMachine(".a", [[1, 0], [1, 1]], [[1, 1], [1, 1]])
        self.assertTrue(is_growth(machine, (1, 1, "", "a", [0, 0])))
        self.assertTrue(is_growth(machine, (1, 1, ".", ".", [0, 0])))
        self.assertFalse(is_growth(machine, (1, 1, "", ".", [0, 0])))
        self.assertFalse(is_growth(machine, (1, 1, "a", "a.", [0, 0])))

    def test_other_forms(self):
        paper = self.PAPER
        for wrong in (paper[:4], paper + (0,), (), (None,) * 5, ("5", 2) + paper[2:], paper[:2] + (None, "a.", paper[4]),
                      (5, "2") + paper[2:], (5, None) + paper[2:], list(paper), paper[:4] + (None,),
                      paper[:4] + (["0", -1, 4, 0],), paper[:4] + ([0, "-1", 4, 0],), paper[:4] + ({},)):
            self.assertIs(is_growth(self.MACHINE, wrong), False, wrong)

    def test_growth_of_changed_machines(self):
        for machine in some_machines():
            top, bottom, start, loop, heights = growth(machine)
            self.assertFalse(is_growth(machine, (top + 1, bottom, start, loop, heights)))
            self.assertFalse(is_growth(machine, (2 * top, 2 * bottom, start, loop, heights)))
            self.assertFalse(is_growth(machine, (-top, -bottom, start, loop, heights)))
            self.assertFalse(is_growth(machine, (top, bottom, start, "", heights)))
            self.assertFalse(is_growth(machine, (top, bottom, start, loop, heights + [0])))
            self.assertFalse(is_growth(machine, (top, bottom, start, loop, [height + 1 for height in heights])))
            doubled = machine + machine.least()
            other = SumMachine(machine.signs, machine.arrows, [[2 * n for n in row] for row in machine.sums])
            self.assertEqual(doubled, other.least())
            if top:
                self.assertFalse(is_growth(other, (top, bottom, start, loop, heights)))
