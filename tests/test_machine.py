import random
from itertools import islice

from leapcard.errors import InvalidMachine, InvalidRow, Unlike
from leapcard.machine import Machine
from tests.helpers import LeapTest, rows_of, rows_up_to

SOLITAIRE = ".a|0,1|2,3!|2,4!|1,4|4,4"


def some_machines(signs, count, most=5, seed=1):
    """Machines of all sorts, with states that no row reaches and states that read on alike."""
    picks = random.Random(seed)
    machines = []
    for _ in range(count):
        size = picks.randint(1, most)
        arrows = [[picks.randrange(size) for _ in signs] for _ in range(size)]
        finals = [state for state in range(size) if picks.random() < 0.4]
        picks.shuffle(finals)
        machines.append(Machine(signs, arrows, finals))
    return machines


def plain_state(machine, row):
    state = 0
    for sign in row:
        state = machine.arrows[state][machine.signs.index(sign)]
    return state


def plain_rows(machine, most):
    return [row for row in rows_up_to(machine.signs, most) if plain_state(machine, row) in machine.finals]


def plain_least_size(machine):
    """The number of states that some row reaches and that some ending tells apart (Moore's method)."""
    met = sorted({plain_state(machine, row) for row in rows_up_to(machine.signs, machine.size - 1)})
    groups = {state: state in machine.finals for state in met}
    for _ in met:
        groups = {state: (groups[state], tuple(groups[to] for to in machine.arrows[state])) for state in met}
        names = {key: number for number, key in enumerate(dict.fromkeys(groups.values()))}
        groups = {state: names[key] for state, key in groups.items()}
    return len(set(groups.values()))


def is_numbered(machine):
    """Whether a breadth-first walk from state 0 meets all states in the order of their numbers."""
    order = [0]
    for state in order:
        order += [to for to in dict.fromkeys(machine.arrows[state]) if to not in order]
    return order == list(range(machine.size))


class LeastTest(LeapTest):
    def is_least(self, machine, rows, most):
        """The machine has these rows up to a length, the fewest states, and the numbers of point 14."""
        self.assertEqual(plain_rows(machine, most), rows)
        self.assertEqual(machine.size, plain_least_size(machine))
        self.assertTrue(is_numbered(machine))


class FormTest(LeapTest):
    def test_attributes(self):
        machine = Machine(".a", [[1, 0], [1, 1]], [1, 0])
        self.assertEqual((machine.signs, machine.arrows, machine.finals), (".a", ((1, 0), (1, 1)), (0, 1)))
        self.assertEqual(machine.size, 2)
        self.assertEqual(Machine("#", ((0,),), ()).finals, ())

    def test_lists_are_copied(self):
        arrows, finals = [[1, 0], [1, 1]], [1]
        machine = Machine(".a", arrows, finals)
        arrows[0][0] = 0
        arrows.append([0, 0])
        finals.append(0)
        self.assertEqual(str(machine), ".a|1,0|1,1!")

    def test_states_stay_as_they_are_given(self):
        for text in (".a|0,0|1,1!", ".a|1,1|0,0", ".a|2,2|1,1|0,0!"):
            self.assertEqual(str(Machine.read(text)), text)

    def test_wrong_signs(self):
        for signs in ("", "a.", "aa", ".x", "x", ". a", "#.:ABCDabcde", ".a\n"):
            for arrows, finals in (([[0] * len(signs)], []), ([], [9, 9])):
                self.fails(InvalidMachine, "part", "signs", Machine, signs, arrows, finals)
            self.fails(InvalidMachine, "part", "signs", Machine.nothing, signs)
            self.fails(InvalidMachine, "part", "signs", Machine.everything, signs)
            self.fails(InvalidMachine, "part", "signs", Machine.of_rows, signs, ["yy"])

    def test_wrong_arrows(self):
        for arrows in ([], [[0]], [[0, 0, 0]], [[0, 1]], [[0, -1]], [[0, 0], []], [[0, 1], [2, 0]], [[10**30, 0]]):
            for finals in ([], [7], [0, 0]):
                self.fails(InvalidMachine, "part", "arrows", Machine, ".a", arrows, finals)

    def test_wrong_finals(self):
        for finals in ([2], [-1], [0, 0], [1, 0, 1], [10**30]):
            self.fails(InvalidMachine, "part", "finals", Machine, ".a", [[0, 1], [1, 1]], finals)

    def test_equality(self):
        machine = Machine.read(SOLITAIRE)
        self.assertTrue(machine == Machine(".a", machine.arrows, machine.finals[::-1]))
        self.assertFalse(machine == Machine("#a", machine.arrows, machine.finals))
        self.assertFalse(machine == Machine(".a", machine.arrows, [1]))
        self.assertTrue(machine != Machine(".a", machine.arrows[:4] + ((3, 4),), machine.finals))
        self.assertFalse(machine == SOLITAIRE)


class ReadingTest(LeapTest):
    def test_state_and_in(self):
        for machine in some_machines(".Aa", 10):
            for row in rows_up_to(".Aa", 4):
                self.assertEqual(machine.state(row), plain_state(machine, row))
                self.assertIs(row in machine, plain_state(machine, row) in machine.finals)
        machine = Machine.read(SOLITAIRE)
        self.assertEqual(machine.state(""), 0)
        self.assertEqual(machine.state("." * 399 + "a"), 1)

    def test_strange_rows(self):
        machine = Machine.read(SOLITAIRE)
        for row in ("b", "#", ".a.A", "aa ", "x" * 400):
            self.fails(InvalidRow, "row", row, machine.state, row)
            self.fails(InvalidRow, "row", row, lambda text: text in machine, row)

    def test_first(self):
        for machine in some_machines(".Aa", 30):
            self.assertEqual(machine.first(), next(iter(plain_rows(machine, 5)), None))
        self.assertIsNone(Machine.nothing(".a").first())
        self.assertEqual(Machine.everything(".a").first(), "")
        self.assertEqual(Machine.of_rows(".a", ["a." * 200]).first(), "a." * 200)

    def test_walk_and_how_many(self):
        for machine in some_machines("#.a", 20):
            for length in range(6):
                rows = [row for row in rows_of("#.a", length) if plain_state(machine, row) in machine.finals]
                self.assertEqual(list(machine.walk(length)), rows)
                self.assertEqual(machine.how_many(length), len(rows))
        self.assertEqual(Machine.everything(".a").how_many(200), 2 ** 200)
        self.assertEqual(Machine.read(SOLITAIRE).how_many(0), 0)

    def test_walks_are_independent(self):
        machine = Machine.everything(".a")
        pairs = [(x, y) for x in machine.walk(2) for y in machine.walk(2)]
        self.assertEqual(pairs, [(x, y) for x in rows_of(".a", 2) for y in rows_of(".a", 2)])
        for row in machine.walk(200):
            self.assertEqual(row, "." * 200)
            break
        self.assertEqual(list(islice(machine.walk(200), 3)), ["." * 200, "." * 199 + "a", "." * 198 + "a."])
        one, two = machine.walk(3), machine.walk(3)
        self.assertEqual([next(one), next(one), next(two), next(one), next(two)], ["...", "..a", "...", ".a.", "..a"])

    def test_a_walk_does_not_try_rows_without_hope(self):
        machine = Machine.of_rows(".a", ["a" * 200, "." + "a" * 199])
        self.assertEqual(list(machine.walk(200)), ["." + "a" * 199, "a" * 200])

    def test_is_endless(self):
        for machine in some_machines(".a", 200, most=4) + some_machines(".a", 200, most=3, seed=2):
            longer = any(machine.how_many(length) > 0 for length in range(machine.size, 2 * machine.size))
            self.assertIs(machine.is_endless(), longer, str(machine))
        self.assertIs(Machine.of_rows(".a", ["a" * 50]).is_endless(), False)
        self.assertIs(Machine.nothing(".a").is_endless(), False)
        self.assertIs(Machine.read(".|1|2!|3|3").is_endless(), False)
        self.assertIs(Machine.read(".|1|2|1!").is_endless(), True)
        # a circle that no row meets, and a circle without a way to a final state
        self.assertIs(Machine.read(".|1!|1|2!").is_endless(), False)
        self.assertIs(Machine.read(".a|1,2!|1,1|1,1").is_endless(), False)


class LeastMachineTest(LeastTest):
    def test_least(self):
        for machine in some_machines(".a", 150, most=6) + some_machines("#.a", 40, most=4):
            before = str(machine)
            self.is_least(machine.least(), plain_rows(machine, 7), 7)
            self.assertEqual(str(machine), before)
            self.assertEqual(machine.least().least(), machine.least())

    def test_least_machines_are_equal_for_equal_rows(self):
        self.assertEqual(str(Machine.read(".a|0,2|7,7!|1,2!|3,3|3,3|3,3|3,3|3,3").least()), ".a|0,1|2,1!|3,3!|3,3")
        self.assertEqual(str(Machine.read(".a|1,2|1,2|1,2").least()), ".a|0,0")
        self.assertEqual(str(Machine.read(".a|1,2!|2,1!|0,0!").least()), ".a|0,0!")
        self.assertEqual(str(Machine.read(".a|1,1|0,0!|0,0!").least()), ".a|1,1|0,0!")

    def test_numbering(self):
        self.assertEqual(str(Machine.read(".a|2,1|1,1!|3,1|3,3").least()), ".a|1,2|3,2|2,2!|3,3")

    def test_long_machines(self):
        count = 2000
        ring = Machine(".a", [[(k + 1) % count, k] for k in range(count)], [0])
        self.assertEqual(ring.least(), ring)
        twice = Machine(".a", [[(k + 1) % count, k] for k in range(count)], [0, 1000])
        self.assertEqual(twice.least().size, 1000)

    def test_operators(self):
        machines = some_machines(".a", 12, most=4)
        for first in machines:
            for second in machines[:6]:
                for machine, keeps in ((first & second, lambda x, y: x and y), (first | second, lambda x, y: x or y),
                                       (first - second, lambda x, y: x and not y), (first ^ second, lambda x, y: x != y)):
                    rows = [row for row in rows_up_to(".a", 6) if keeps(row in first, row in second)]
                    self.is_least(machine, rows, 6)
            self.is_least(~first, [row for row in rows_up_to(".a", 6) if row not in first], 6)

    def test_operators_over_a_machine_and_itself(self):
        for machine in some_machines(".a", 20):
            least = machine.least()
            self.assertEqual(machine & machine, least)
            self.assertEqual(machine | machine, least)
            self.assertEqual(machine - machine, Machine.nothing(".a"))
            self.assertEqual(machine ^ machine, Machine.nothing(".a"))
            self.assertEqual(~~machine, least)
            self.assertEqual(machine | ~machine, Machine.everything(".a"))

    def test_unlike_signs(self):
        first = Machine.read(SOLITAIRE)
        for signs in ("#.a", "a", ".A", ".ab"):
            second = Machine.everything(signs)
            for call in (lambda x, y: x & y, lambda x, y: x | y, lambda x, y: x - y, lambda x, y: x ^ y):
                self.fails(Unlike, "signs", signs, call, first, second)
                self.fails(Unlike, "signs", ".a", call, second, first)


class TextTest(LeapTest):
    def test_example(self):
        self.assertEqual(str(Machine.of_rows(".a", ["a"])), ".a|1,2|1,1|1,1!")

    def test_texts(self):
        for text in (SOLITAIRE, "#|0", "#|0!", "a|1!|2|0!", ".:Aa|0,0,0,0!", ".a|10,9" + "|0,0" * 10):
            self.assertEqual(str(Machine.read(text)), text)
        for machine in some_machines(".a", 20):
            self.assertEqual(Machine.read(str(machine)), machine)

    def test_texts_that_are_nearly_right(self):
        for text in (".a|", ".a|0,0|", "|", ".a||0,0", ".a|0,", ".a|,0", ".a|0,,0", ".a|00,0", ".a|0,01", ".a|0,0!!",
                     ".a|!", ".a|!0,0", ".a|0!,0", ".a|0,0! ", ".a| 0,0", ".a|0, 0", ".a|0,0\n", ".a|+0,0", ".a|-1,0",
                     ".a|0,x", ".a|0.0", ".a|\u0660,0", ".a|\u00b2,0", "xx|x", "|x", ".a|0;0", ".a|0,0|1,1?",
                     ".a|1_0,0"):
            self.fails(InvalidMachine, "part", "text", Machine.read, text)

    def test_errors_of_the_class(self):
        for text in ("", "|0", "a.|0,0", "x|0", " |0", ".a |0,0", "aa|5"):
            self.fails(InvalidMachine, "part", "signs", Machine.read, text)
        for text in (".a", ".a|0", ".a|0,0,0", ".a|0,1", ".a|0,0!|0,2", ".a|0,9999999999999999999999999999999"):
            self.fails(InvalidMachine, "part", "arrows", Machine.read, text)


class GivenRowsTest(LeastTest):
    def test_nothing_and_everything(self):
        self.assertEqual(str(Machine.nothing("#.a")), "#.a|0,0,0")
        self.assertEqual(str(Machine.everything("#.a")), "#.a|0,0,0!")

    def test_of_rows(self):
        for rows in ([], [""], ["a"], ["", "a", "a."], ["a", "a"], ["aa", ".", "a.a", "..", "a.a"], rows_of(".a", 3),
                     rows_up_to(".a", 2)):
            self.is_least(Machine.of_rows(".a", rows), [row for row in rows_up_to(".a", 5) if row in rows], 5)
            self.assertEqual(Machine.of_rows(".a", tuple(rows)), Machine.of_rows(".a", rows[::-1]))
        self.assertEqual(Machine.of_rows("#.a", []), Machine.nothing("#.a"))
        self.assertEqual(str(Machine.of_rows(".", [".."])), ".|1|2|3!|3")

    def test_long_rows(self):
        machine = Machine.of_rows(".a", ["a" * 400, "." * 400])
        self.assertEqual(machine.size, 801)
        self.assertTrue("a" * 400 in machine)

    def test_a_strange_sign(self):
        self.fails(InvalidRow, "row", "ab", Machine.of_rows, ".a", ["a", "ab", "#"])
        self.fails(InvalidRow, "row", "A", Machine.of_rows, ".a", ["A"])
        self.fails(InvalidMachine, "part", "signs", Machine.of_rows, "a.", ["b"])
