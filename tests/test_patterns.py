import random

from leapcard.errors import InvalidMachine, InvalidPattern
from leapcard.machine import Machine
from leapcard.patterns import pattern
from tests.helpers import ALL_SIGNS, rows_up_to
from tests.test_machine import LeastTest


class PlainMatcher:
    """Matches a pattern by trying all ends of each part; it knows nothing of machines."""

    def __init__(self, text, signs):
        self.text, self.signs, self.at = text, signs, 0
        self.tree = self.branches()

    def branches(self):
        parts = [self.branch()]
        while self.text[self.at:self.at + 1] == "|":
            self.at += 1
            parts.append(self.branch())
        return ("any", parts)

    def branch(self):
        parts = []
        while self.at < len(self.text) and self.text[self.at] not in "|)":
            parts.append(self.piece())
        return ("all", parts)

    def piece(self):
        sign = self.text[self.at]
        self.at += 1
        part = ("sign", sign)
        if sign == "(":
            part = self.branches()
            self.at += 1
        while self.at < len(self.text) and self.text[self.at] in "*+?":
            part = (self.text[self.at], part)
            self.at += 1
        return part

    def ends(self, tree, row, starts):
        """The ends of the stretches of the row that begin at one of the starts and fit the tree."""
        kind, part = tree
        if kind == "sign":
            fitting = {"_": self.signs, "@": [s for s in self.signs if s in "abcdABCD"]}.get(part, part)
            return {at + 1 for at in starts if at < len(row) and row[at] in fitting}
        if kind == "any":
            return {end for branch in part for end in self.ends(branch, row, starts)}
        if kind == "all":
            for piece in part:
                starts = self.ends(piece, row, starts)
            return starts
        if kind == "?":
            return starts | self.ends(part, row, starts)
        found = self.ends(part, row, starts)
        while not self.ends(part, row, found) <= found:
            found = found | self.ends(part, row, found)
        return found | starts if kind == "*" else found

    def fits(self, row):
        return len(row) in self.ends(self.tree, row, {0})


def some_pattern(picks, depth):
    pieces = []
    for _ in range(picks.randint(0, 3)):
        atom = picks.choice(".aab_@#A")
        if depth > 0 and picks.random() < 0.5:
            atom = "(" + some_pattern(picks, depth - 1) + ")"
        pieces.append(atom + "".join(picks.choice("*+?") for _ in range(picks.choice((0, 0, 1, 2)))))
    text = "".join(pieces)
    return text + "|" + some_pattern(picks, depth - 1) if picks.random() < 0.3 and depth > 0 else text


class PatternTest(LeastTest):
    def agrees(self, text, signs, most):
        matcher = PlainMatcher(text, signs)
        rows = [row for row in rows_up_to(signs, most) if matcher.fits(row)]
        machine = pattern(text, signs)
        self.assertEqual(machine.signs, signs)
        self.is_least(machine, rows, most)

    def test_examples(self):
        self.assertEqual(list(pattern("(.a|a.)*", ".a").walk(2)), [".a", "a."])
        self.fails(InvalidPattern, "index", 3, pattern, "(a|*)", ".a")
        self.assertEqual(str(pattern(".*a.*|.*aa(.a)*..*", ".a")), ".a|0,1|2,3!|2,4!|1,4|4,4")

    def test_patterns(self):
        for text in ("", "|", "a|", "|a", "a||.", "()", "()*", "(|)+", "(a|)+.", "a*", "a+", "a?", "(a.)*", "(a|.)+a",
                     "a*+", "a+*", "a?+", "a+?", "a??", "(a?)+", "(a+)?", "((a*)*)*", "(a*.*)*", "(a?.?)+a", "_", "__",
                     "_*a_*", "@", "@*.@+", "(_|)(_|)", ".*a.*|.*aa(.a)*..*", "(a(.(a)?)*)+"):
            self.agrees(text, ".a", 6)

    def test_signs_that_the_machine_does_not_have(self):
        for text in ("b", "b*", "b?", "ab", "a|b", "(b|a)+", "ab*a", "b+", "(ab)?", "#", ":", "A", "D*."):
            self.agrees(text, ".a", 5)

    def test_walls_marks_and_kinds(self):
        for text in ("_#_", "@", "@+", ":*A", "(@#)*", "", "D|d", ".@:", "(#|_)b"):
            self.agrees(text, "#.:Aa", 4)
            self.agrees(text, "#.Bb", 4)
            self.agrees(text, "#.:", 4)
        for sign in ALL_SIGNS:
            self.assertEqual(pattern(sign, ALL_SIGNS), Machine.of_rows(ALL_SIGNS, [sign]))
        self.assertEqual(list(pattern("_", ALL_SIGNS).walk(1)), list(ALL_SIGNS))
        self.assertEqual(list(pattern("@", ALL_SIGNS).walk(1)), list("ABCDabcd"))

    def test_many_patterns(self):
        picks = random.Random(7)
        tried = 0
        while tried < 150:
            text = some_pattern(picks, 3)
            if len(text) <= 60:
                self.agrees(text, ".ab" if tried < 20 else "#a", 4 if tried < 20 else 6)
                tried += 1

    def test_many_marks_behind_one_atom(self):
        self.assertEqual(pattern("a" + "*" * 59, ".a"), pattern("a*", ".a"))
        self.assertEqual(pattern("a" + "+" * 59, ".a"), pattern("a+", ".a"))
        self.assertEqual(pattern("a" + "?" * 59, ".a"), pattern("a?", ".a"))
        self.assertEqual(pattern("(a.)" + "+?*" * 18, ".a"), pattern("(a.)*", ".a"))
        self.assertEqual(pattern("(" * 10 + "a" + ")+" * 10 + "+" * 20, ".a"), pattern("a+", ".a"))

    def test_parentheses_within_parentheses(self):
        self.assertEqual(pattern("(" * 10 + "a" + ")" * 10, ".a"), pattern("a", ".a"))
        self.assertEqual(pattern("(" * 10 + ")" * 10 + "(" * 10 + ")" * 10, ".a"), pattern("", ".a"))
        self.fails(InvalidPattern, "index", 10, pattern, "(" * 11 + "a" + ")" * 11, ".a")
        self.fails(InvalidPattern, "index", 32, pattern, "(" * 10 + "a" + ")" * 10 + "a" + "(" * 11, ".a")

    def test_sixty_characters(self):
        self.assertEqual(pattern("a" * 60, ".a"), Machine.of_rows(".a", ["a" * 60]))
        self.fails(InvalidPattern, "index", 60, pattern, "a" * 61, ".a")
        self.fails(InvalidPattern, "index", 60, pattern, "a" * 60 + "x" * 60, ".a")
        self.fails(InvalidPattern, "index", 60, pattern, "(" + "a" * 59 + ")", ".a")
        self.fails(InvalidPattern, "index", 60, pattern, "(" + "a" * 59, ".a")
        self.fails(InvalidPattern, "index", 59, pattern, "a" * 59 + "xx", ".a")
        self.fails(InvalidPattern, "index", 0, pattern, "*" + "a" * 90, ".a")

    def test_each_fault(self):
        for text, index in (("(", 1), ("(a", 2), ("((a)", 4), ("a(|", 3), (")", 0), ("a)", 1), ("(a))", 3), ("*", 0),
                            ("+", 0), ("?", 0), ("a|*", 2), ("(+", 1), ("()*|?", 4), ("a b", 1), (" ", 0), ("ax", 1),
                            ("a\n", 1), ("e", 0), ("[a]", 0), ("a{2}", 1), ("a.\\", 2), ("a\u00e9", 1), ("(x", 1),
                            ("a*)*", 2), ("a-", 1), ("^a", 0), ("a**|**", 4)):
            self.fails(InvalidPattern, "index", index, pattern, text, ".a")

    def test_signs_come_first(self):
        for signs in ("", "a.", "x", "aa", ".a "):
            self.fails(InvalidMachine, "part", "signs", pattern, "a", signs)
            self.fails(InvalidMachine, "part", "signs", pattern, "(((", signs)
