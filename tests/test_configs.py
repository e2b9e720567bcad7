from leapcard.cards import Card
from leapcard.configs import is_good, next_configs, start_configs
from leapcard.errors import InvalidBoard, Unlike
from leapcard.machine import Machine
from leapcard.patterns import pattern
from tests.helpers import LeapTest, plain_next, rows_up_to
from tests.plain_configs import plain_configs, plain_good, plain_onward, plain_starts

CARDS = ("a=1: aa.=..a", "a=1: aaa.>...a", "a=1 b=3: ab.=..b bb.>.aa", "a=1 b=1: ab.<... aab.=...b", "a=1:")


def some_cases():
    """Cards with machines over each of their four sign strings."""
    for text in CARDS:
        card = Card.read(text)
        for walls in (False, True):
            for marks in (False, True):
                signs = card.sign_string(walls=walls, marks=marks)
                for shape in ("_*@_", "(._|a)*"):
                    yield card, pattern(shape, signs)
    yield Card.read(CARDS[0]), Machine(".a", [[1, 2], [1, 0], [2, 2], [3, 3]], [2, 0])


class ConfigsTest(LeapTest):
    def test_starts(self):
        for card, machine in some_cases():
            for board in ("row", "ring"):
                found = start_configs(card, machine, board=board)
                self.assertEqual(found, plain_starts(card, board))
                self.assertIsInstance(found, list)
            self.assertEqual(start_configs(card, machine), [(0, 0, 0, 0, 0)])

    def test_starts_of_a_ring(self):
        card = Card.read("a=1: aa.>..a aaa.<...a")
        self.assertEqual(start_configs(card, Machine.everything(".a"), board="ring"),
                         [(0, 0, 0, 0, 0), (3, 0, 0, 1, 0), (3, 0, 0, 2, 0), (3, 0, 1, 1, 0), (3, 0, 1, 2, 0),
                          (3, 0, 1, 3, 0)])

    def test_one_configuration(self):
        for card, machine in some_cases():
            for config in plain_configs(card, machine, "ring"):
                for sign in machine.signs:
                    found = next_configs(card, machine, [config], sign)
                    self.assertEqual(found, sorted(plain_onward(card, machine, config, sign)), (str(card), config, sign))
                self.assertIs(is_good(machine, config), plain_good(machine, config))

    def test_configurations_in_any_order_and_twice(self):
        card, machine = Card.read("a=1: aa.=..a"), Machine.read(".a|0,1|2,3!|2,4!|1,4|4,4")
        configs = plain_configs(card, machine, "ring")
        wanted = sorted(set().union(*[plain_onward(card, machine, config, "a") for config in configs]))
        given = configs[::-1] + configs[3:7]
        copy = list(given)
        self.assertEqual(next_configs(card, machine, given, "a"), wanted)
        self.assertEqual(given, copy)
        self.assertEqual(next_configs(card, machine, tuple(configs), "a"), wanted)
        self.assertEqual(next_configs(card, machine, [], "a"), [])

    def test_a_row_has_a_move_into_the_machine(self):
        for card, machine in some_cases():
            most = 6 if len(machine.signs) < 4 else 3
            for board in ("row", "ring"):
                for row in rows_up_to(machine.signs, most):
                    configs = start_configs(card, machine, board=board)
                    for sign in row:
                        configs = next_configs(card, machine, configs, sign)
                    has_move = any(after in machine for after in plain_next(card, row, board))
                    self.assertEqual(any(is_good(machine, config) for config in configs), has_move, (row, board))

    def test_marks_stay(self):
        card = Card.read("a=1: aa.>..a")
        machine = pattern("..A", ".:Aa")
        configs = start_configs(card, machine)
        for sign in "aa:":
            configs = next_configs(card, machine, configs, sign)
        self.assertTrue(any(is_good(machine, config) for config in configs))

    def test_errors(self):
        card = Card.read("a=1 b=1: ab.>..a")
        for signs in (".a", ".abc", "#.a", "ab", "a", ":ABab"):
            machine = Machine.everything(signs)
            self.fails(Unlike, "signs", signs, start_configs, card, machine)
            self.fails(Unlike, "signs", signs, next_configs, card, machine, [], "a")
            self.fails(InvalidBoard, "board", "disk", start_configs, card, machine, board="disk")
        for signs in (".ab", "#.ab", ".:ABab", "#.:ABab"):
            self.assertEqual(start_configs(card, Machine.everything(signs)), [(0, 0, 0, 0, 0)])
            self.fails(InvalidBoard, "board", "Row", start_configs, card, Machine.everything(signs), board="Row")
