from itertools import islice

from leapcard.errors import InvalidPlace, InvalidRow
from leapcard.signs import (SIGNS, each_row, least_turn, marked, marked_places, mirror, pegs, plain, shortlex,
                            signs_of, turned)
from tests.helpers import ALL_SIGNS, LeapTest, rows_of, rows_up_to


class SignStringTest(LeapTest):
    def test_all_signs(self):
        self.assertEqual(SIGNS, ALL_SIGNS)

    def test_sign_strings(self):
        self.assertEqual(signs_of(1), ".a")
        self.assertEqual(signs_of(4), ".abcd")
        self.assertEqual(signs_of(1, walls=True), "#.a")
        self.assertEqual(signs_of(2, marks=True), ".:ABab")
        self.assertEqual(signs_of(3, walls=True, marks=True), "#.:ABCabc")
        self.assertEqual(signs_of(4, walls=True, marks=True), SIGNS)

    def test_walls_and_marks_are_given_by_name(self):
        self.assertRaises(TypeError, signs_of, 1, True)

    def test_every_sign_string_is_ascending(self):
        for kinds in (1, 2, 3, 4):
            for walls in (False, True):
                for marks in (False, True):
                    signs = signs_of(kinds, walls=walls, marks=marks)
                    self.assertEqual(signs, "".join(sorted(set(signs))))
                    self.assertEqual(len(signs), (kinds + 1) * (2 if marks else 1) + (1 if walls else 0))


class RowTest(LeapTest):
    def test_plain(self):
        self.assertEqual(plain(ALL_SIGNS), "#..abcdabcd")
        self.assertEqual(plain(""), "")

    def test_marked_places(self):
        self.assertEqual(marked_places(ALL_SIGNS), [2, 3, 4, 5, 6])
        self.assertEqual(marked_places("#.abcd"), [])
        self.assertEqual(marked_places(""), [])

    def test_marked(self):
        self.assertEqual([marked(".abcd", k) for k in range(5)], [":abcd", ".Abcd", ".aBcd", ".abCd", ".abcD"])
        self.assertEqual(marked("A.", 1), "A:")
        for row in (":", "A", "B", "C", "D"):
            self.assertEqual(marked(row, 0), row)

    def test_marked_refuses_places(self):
        for row, place in (("", 0), ("a", 1), ("a", -1), ("a.a", -3), ("a.a", 3), ("a.a", 10**30), ("a#a", 1)):
            self.fails(InvalidPlace, "place", place, marked, row, place)

    def test_the_row_is_checked_before_the_place(self):
        self.fails(InvalidRow, "row", "ax", marked, "ax", 7)

    def test_pegs(self):
        self.assertEqual(pegs(ALL_SIGNS), 8)
        self.assertEqual(pegs("#.:"), 0)
        self.assertEqual(pegs(""), 0)
        self.assertEqual(pegs("aA" * 30), 60)

    def test_mirror(self):
        self.assertEqual(mirror("#aB."), ".Ba#")
        self.assertEqual(mirror(""), "")

    def test_turned(self):
        self.assertEqual(turned("abcd", 1), "bcda")
        self.assertEqual(turned("abcd", -1), "dabc")
        self.assertEqual(turned("abcd", 0), "abcd")
        self.assertEqual(turned("", 5), "")
        self.assertEqual(turned("#", -7), "#")
        row = "".join(SIGNS[k % 11] for k in range(60))
        for by in (59, 60, 61, -60, 10**30 + 7, -10**30 - 7):
            self.assertEqual(turned(row, by), "".join(row[(i + by) % 60] for i in range(60)))

    def test_least_turn(self):
        self.assertEqual(least_turn(""), "")
        self.assertEqual(least_turn("ba"), "ab")
        for row in rows_of("#.Aa", 5):
            self.assertEqual(least_turn(row), min(turned(row, by) for by in range(5)))
        self.assertEqual(least_turn("a" * 59 + "#"), "#" + "a" * 59)

    def test_strange_signs(self):
        for row in ("x", "a ", "e", "E", "a\n", "aa_", ".é"):
            for call in (plain, marked_places, pegs, mirror, least_turn):
                self.fails(InvalidRow, "row", row, call, row)
            self.fails(InvalidRow, "row", row, marked, row, 0)
            self.fails(InvalidRow, "row", row, turned, row, 0)


class RowsInOrderTest(LeapTest):
    def test_each_row(self):
        self.assertEqual(list(each_row(".a", 2)), ["..", ".a", "a.", "aa"])
        self.assertEqual(list(each_row(".a", 0)), [""])
        self.assertEqual(list(each_row("a", 3)), ["aaa"])
        self.assertEqual(list(each_row("#.Aa", 4)), rows_of("#.Aa", 4))

    def test_shortlex(self):
        self.assertEqual(list(shortlex(".a", 2)), ["", ".", "a", "..", ".a", "a.", "aa"])
        self.assertEqual(list(shortlex("#a", 0)), [""])
        self.assertEqual(list(shortlex(".:A", 4)), rows_up_to(".:A", 4))

    def test_the_first_rows_come_at_once(self):
        rows = list(islice(each_row(SIGNS, 60), 13))
        self.assertEqual(rows[0], "#" * 60)
        self.assertEqual(rows[12], "#" * 58 + "..")
        self.assertEqual(list(islice(shortlex(SIGNS, 60), 3)), ["", "#", "."])
        self.assertEqual(next(iter(each_row(".a", 400))), "." * 400)

    def test_two_walks_do_not_meet(self):
        self.assertEqual([(x, y) for x in each_row(".a", 1) for y in each_row(".a", 1)],
                         [(".", "."), (".", "a"), ("a", "."), ("a", "a")])
