from random import Random

from leapcard.cards import Card
from leapcard.errors import InvalidMachine, InvalidPlace, InvalidRow
from leapcard.machine import Machine
from leapcard.measures import measured
from leapcard.patterns import pattern
from leapcard.reach import fewest_left, least_worth, longest_full
from leapcard.walls import pieces, wall_effects, walled
from tests.helpers import LeapTest, plain_measure, rows_up_to, some_machine

CARDS = (Card.read("a=1: aa.=..a"), Card.read("a=1 b=3: bb.>.aa ab.<..b aab.>..ba"))


class PiecesTest(LeapTest):
    def test_pieces(self):
        cases = {"": [""], "#": ["", ""], "###": ["", "", "", ""], "a.": ["a."], "#a.": ["", "a."], "a.#": ["a.", ""],
                 "a#:D##.": ["a", ":D", "", "."], "#ab#": ["", "ab", ""]}
        for row, wanted in cases.items():
            self.assertEqual(pieces(row), wanted)
        for row in rows_up_to("#.:Aa", 4):
            self.assertEqual("#".join(pieces(row)), row)
            self.assertEqual(len(pieces(row)), row.count("#") + 1)

    def test_a_returned_list_may_be_changed(self):
        pieces("a#.").append("x")
        self.assertEqual(pieces("a#."), ["a", "."])

    def test_errors(self):
        for row in ("x", "a#e", "#-", "a #"):
            self.fails(InvalidRow, "row", row, pieces, row)

    def test_sums_over_pieces(self):
        for card in CARDS:
            for row in rows_up_to(card.sign_string(walls=True), 6 if len(card.worths) == 1 else 5):
                parts = pieces(row)
                self.assertEqual(fewest_left(card, row), sum(fewest_left(card, part) for part in parts))
                self.assertEqual(least_worth(card, row), sum(least_worth(card, part) for part in parts))
                self.assertEqual(len(longest_full(card, row)), sum(len(longest_full(card, part)) for part in parts))
                for measure in ("left", "worth", "long"):
                    wanted = sum(plain_measure(card, part, measure, "row") for part in parts)
                    self.assertEqual(plain_measure(card, row, measure, "row"), wanted)
                    self.assertEqual(measured(card, row, measure), wanted)


class WalledTest(LeapTest):
    def test_walled(self):
        self.assertEqual([walled("a.B", gap) for gap in range(4)], ["#a.B", "a#.B", "a.#B", "a.B#"])
        self.assertEqual(walled("", 0), "#")
        self.assertEqual(walled("##", 1), "###")

    def test_errors(self):
        for row in ("", "a", "a.#"):
            for gap in (-1, -len(row) - 1, len(row) + 1, 10 ** 29):
                self.fails(InvalidPlace, "place", gap, walled, row, gap)
        for gap in (0, 1, 9, -1):
            self.fails(InvalidRow, "row", "ax", walled, "ax", gap)


class WallEffectsTest(LeapTest):
    def test_wall_effects(self):
        random = Random(36)
        machines = [pattern("(.|a#)*", "#.a"), Machine.nothing("#.:Aa"), Machine.everything("#a")]
        machines += [some_machine(random, signs, size) for signs in ("#.a", "#.ab") for size in (2, 3, 5)]
        for machine in machines:
            for row in rows_up_to(machine.signs, 4):
                wanted = [row[:gap] + "#" + row[gap:] in machine for gap in range(len(row) + 1)]
                found = wall_effects(machine, row)
                self.assertEqual(found, wanted)
                self.assertTrue(all(flag is True or flag is False for flag in found))

    def test_a_long_row(self):
        self.assertEqual(wall_effects(pattern("(.a)*#(.a)*", "#.a"), ".a" * 200), [True, False] * 200 + [True])

    def test_errors(self):
        self.fails(InvalidMachine, "part", "signs", wall_effects, Machine.everything(".a"), ".a")
        self.fails(InvalidMachine, "part", "signs", wall_effects, Machine.everything(".a"), "xb#")
        for row in ("b", ":", "#x"):
            self.fails(InvalidRow, "row", row, wall_effects, Machine.everything("#.a"), row)
