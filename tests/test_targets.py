from leapcard.errors import InvalidMachine, InvalidPattern, InvalidRow, InvalidTarget
from leapcard.machine import Machine
from leapcard.patterns import pattern
from leapcard.shapes import narrowed
from leapcard.signs import signs_of
from leapcard.targets import AtMost, Both, Either, Listed, Not, OnePeg, PegAt, Shape, Target
from tests.helpers import ALL_SIGNS, LeapTest, plain_sign, rows_up_to

KINDS = ("", "a", "b", "c", "d")
WRONG_SIGNS = ("", "aa", "a.", "x", ".a ", ".ax")


def peg_kinds(row):
    return [plain_sign(sign) for sign in row if plain_sign(sign) in "abcd"]


def is_one_peg(row, kind):
    kinds = peg_kinds(row)
    return len(kinds) == 1 and kind in ("", kinds[0])


def is_at_most(row, count, kind):
    return len([found for found in peg_kinds(row) if kind in ("", found)]) <= count


def is_peg_at(row, kind):
    marked = [sign for sign in row if sign in ":ABCD"]
    return len(marked) == 1 and marked != [":"] and len(peg_kinds(row)) == 1 and kind in ("", plain_sign(marked[0]))


class TargetTest(LeapTest):
    def same(self, target, is_right, most=3):
        """The target holds for exactly the right rows, and its lots have exactly these rows."""
        for row in rows_up_to(ALL_SIGNS, most):
            self.assertIs(target.holds(row), is_right(row), row)
        for signs in (".a", "#.:Aa", "B", "#:", ".:ABab", "d"):
            lot = target.lot_over(signs)
            self.assertEqual(lot.signs, signs)
            self.assertEqual(lot, lot.least())
            for row in rows_up_to(signs, 4):
                self.assertEqual(row in lot, is_right(row), (signs, row))
        for row in ("e", " ", ".ax", "aE"):
            self.fails(InvalidRow, "row", row, target.holds, row)
        for signs in WRONG_SIGNS:
            self.fails(InvalidMachine, "part", "signs", target.lot_over, signs)

    def test_example(self):
        self.assertEqual(Both(OnePeg("b"), Not(AtMost(0))).told(), "(one peg b and not at most 0 pegs)")

    def test_target_itself(self):
        self.same(Target(), lambda row: True)
        self.assertEqual(Target().told(), "every row")

    def test_one_peg(self):
        for kind in KINDS:
            self.same(OnePeg(kind), lambda row: is_one_peg(row, kind), 2)
        self.same(OnePeg(), lambda row: is_one_peg(row, ""))
        self.assertEqual(OnePeg().told(), "one peg")
        self.assertEqual(OnePeg("c").told(), "one peg c")
        self.assertTrue(OnePeg("a").holds("#:A."))
        self.assertFalse(OnePeg("a").holds("ab"))
        self.assertFalse(OnePeg().holds(""))

    def test_at_most(self):
        for count in (0, 1, 2):
            for kind in KINDS:
                self.same(AtMost(count, kind), lambda row: is_at_most(row, count, kind), 2)
        self.assertEqual(AtMost(1).told(), "at most 1 pegs")
        self.assertEqual(AtMost(2, "a").told(), "at most 2 pegs a")
        self.assertEqual(AtMost(20).lot_over(".a").size, 22)
        self.assertTrue(AtMost(20, "b").holds("bB" * 10 + "a" * 30))
        self.assertFalse(AtMost(20, "b").holds("bB" * 10 + "B"))

    def test_peg_at(self):
        for kind in KINDS:
            self.same(PegAt(kind), lambda row: is_peg_at(row, kind), 3)
        self.assertEqual(PegAt().told(), "peg at the mark")
        self.assertEqual(PegAt("a").told(), "peg a at the mark")
        self.assertEqual(PegAt().lot_over(".a"), Machine.nothing(".a"))
        for row in ("a:", "Aa", "A:", "AA", ":", "a", ""):
            self.assertFalse(PegAt().holds(row), row)

    def test_wrong_kinds_and_counts(self):
        for kind in ("e", "A", "ab", "#", ".", " ", "a "):
            self.fails(InvalidTarget, "part", "kind", OnePeg, kind)
            self.fails(InvalidTarget, "part", "kind", PegAt, kind)
            self.fails(InvalidTarget, "part", "kind", AtMost, 0, kind)
            self.fails(InvalidTarget, "part", "count", AtMost, 21, kind)
        for count in (-1, 21, 10**20):
            self.fails(InvalidTarget, "part", "count", AtMost, count)

    def test_shape(self):
        for text in ("", "_", "@", "_*", "a@_?", "(.|#)*", "A|d+", "(:|_@)+"):
            whole = pattern(text, ALL_SIGNS)
            self.same(Shape(text), lambda row: row in whole, 2)
            for signs in ("c", ".a", ALL_SIGNS[1:]):
                self.assertEqual(Shape(text).lot_over(signs), narrowed(whole, signs))
            self.assertEqual(Shape(text).told(), "shape " + text)

    def test_shape_over_signs_without_the_atoms(self):
        self.assertEqual(str(Shape("_").lot_over("d")), "d|1|2!|2")
        self.assertEqual(Shape("@").lot_over("#.:"), Machine.nothing("#.:"))
        self.assertEqual(Shape("a*").lot_over(".b"), Machine.of_rows(".b", [""]))
        self.assertTrue(Shape("@_").holds("D#"))
        self.assertFalse(Shape("@_").holds(":#"))

    def test_wrong_patterns(self):
        for text, index in (("(a|*)", 3), ("a)", 1), ("(", 1), ("a b", 1), ("a" * 61, 60)):
            self.fails(InvalidPattern, "index", index, Shape, text)

    def test_listed(self):
        self.same(Listed(["a", "", "#:", "aB", "a", "B"]), lambda row: row in ("a", "", "#:", "aB", "B"))
        self.assertEqual(Listed(["b", "a", "aa", "", "a"]).told(), "rows ,a,b,aa")
        self.assertEqual(Listed([]).told(), "rows ")
        self.same(Listed([]), lambda row: False, 2)
        self.fails(InvalidRow, "row", "ax", Listed, ["a", "ax", "y"])
        self.assertEqual(Listed(("a",)).told(), "rows a")

    def test_the_list_is_copied(self):
        rows = ["aa", "."]
        target = Listed(rows)
        rows.append("a")
        rows[0] = "b"
        self.assertEqual(target.told(), "rows .,aa")
        self.assertFalse(target.holds("a"))
        self.assertTrue("aa" in target.lot_over(".a"))

    def test_both_either_and_not(self):
        one, few = OnePeg(), AtMost(1, "a")
        self.same(Both(one, few), lambda row: is_one_peg(row, "") and is_at_most(row, 1, "a"), 2)
        self.same(Both(few, Not(OnePeg("b"))), lambda row: is_at_most(row, 1, "a") and not is_one_peg(row, "b"), 2)
        self.same(Either(OnePeg("a"), OnePeg("b")), lambda row: is_one_peg(row, "a") or is_one_peg(row, "b"), 2)
        self.same(Not(few), lambda row: not is_at_most(row, 1, "a"), 2)
        self.same(Both(one), lambda row: is_one_peg(row, ""), 2)
        self.same(Both(one, one), lambda row: is_one_peg(row, ""), 2)
        self.same(Either(one, one), lambda row: is_one_peg(row, ""), 2)
        self.same(Both(), lambda row: True, 2)
        self.same(Either(), lambda row: False, 2)

    def test_texts_of_both_either_and_not(self):
        one, few = OnePeg(), AtMost(1, "a")
        self.assertEqual(Both().told(), "every row")
        self.assertEqual(Either().told(), "no row")
        self.assertEqual(Both(one).told(), "(one peg)")
        self.assertEqual(Either(one).told(), "(one peg)")
        self.assertEqual(Both(one, one).told(), "(one peg and one peg)")
        self.assertEqual(Either(few, Not(Target()), PegAt()).told(),
                         "(at most 1 pegs a or not every row or peg at the mark)")
        self.assertEqual(Not(Both(one, Either())).told(), "not (one peg and no row)")
        self.assertEqual(Not(Not(Shape("a|b"))).told(), "not not shape a|b")

    def test_all_are_targets(self):
        for target in (OnePeg(), AtMost(0), PegAt(), Shape(""), Listed([]), Both(), Either(), Not(Target())):
            self.assertIsInstance(target, Target)
            for name in ("holds", "lot_over", "told"):
                self.assertIn(name, vars(type(target)))

    def test_lots_over_the_signs_of_cards(self):
        for kinds in (1, 4):
            signs = signs_of(kinds, walls=True, marks=True)
            self.assertEqual(OnePeg("d").lot_over(signs).first(), "D" if kinds == 4 else None)
