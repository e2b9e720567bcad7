from leapcard.errors import InvalidJump
from leapcard.jumps import Jump
from tests.helpers import ALL_SIGNS, LeapTest, rows_of


class JumpTest(LeapTest):
    def test_example(self):
        self.assertEqual(Jump.read("ab.=..a").windows(), [("ab.", "..a"), (".ba", "a..")])

    def test_attributes(self):
        jump = Jump("ab.", "..c")
        self.assertEqual((jump.before, jump.after, jump.ways), ("ab.", "..c", "right"))
        jump = Jump(before="abd.", after=".b.c", ways="left")
        self.assertEqual((jump.before, jump.after, jump.ways), ("abd.", ".b.c", "left"))

    def test_windows(self):
        self.assertEqual(Jump("ab.", "..c").windows(), [("ab.", "..c")])
        self.assertEqual(Jump("ab.", "..c", "left").windows(), [(".ba", "c..")])
        self.assertEqual(Jump("abd.", ".b.c").windows(), [("abd.", ".b.c")])
        self.assertEqual(Jump("abd.", ".b.c", "left").windows(), [(".dba", "c.b.")])
        self.assertEqual(Jump("abd.", ".b.c", "both").windows(), [("abd.", ".b.c"), (".dba", "c.b.")])

    def test_windows_are_a_new_list(self):
        jump = Jump("ab.", "..c")
        jump.windows().append("x")
        self.assertEqual(jump.windows(), [("ab.", "..c")])

    def test_mirrored(self):
        self.assertEqual(Jump("ab.", "..c").mirrored(), Jump("ab.", "..c", "left"))
        self.assertEqual(Jump("ab.", "..c", "left").mirrored(), Jump("ab.", "..c"))
        self.assertEqual(Jump("ab.", "..c", "both").mirrored(), Jump("ab.", "..c", "both"))

    def test_equality(self):
        self.assertTrue(Jump("ab.", "..c") == Jump("ab.", "..c", "right"))
        for other in (Jump("bb.", "..c"), Jump("ab.", "..b"), Jump("ab.", "..c", "both"), "ab.>..c", None):
            self.assertFalse(Jump("ab.", "..c") == other)
            self.assertTrue(Jump("ab.", "..c") != other)

    def test_texts(self):
        for text in ("ab.>..c", "ab.<..c", "ab.=.a.", "abcd"[:3] + ".=....", "aaa.<.dcb", "aa.>..."):
            self.assertEqual(str(Jump.read(text)), text)
        self.assertEqual(Jump.read("ab.<..c"), Jump("ab.", "..c", "left"))
        self.assertEqual(Jump.read("abb.=.a.c"), Jump("abb.", ".a.c", "both"))

    def test_texts_that_are_nearly_right(self):
        right = "ab.=..a"
        wrong = [right[:k] + extra + right[k:] for k in range(8) for extra in " \n.a="]
        wrong += [right[:k] + right[k + 1:] for k in range(7)]
        wrong += ["", "=", "a", "ab.-..a", "AB.=..A", "ab:=..a", "a#.=..a", "ab.=a..", "a..=..a", ".b.=..a",
                  "aba=..a", "ab.=..A", "ab.=..#", "ab.=..e", "ae.=..a", "ab.=...a", "aab.=..a", "a.=.a",
                  "aaaa.=....a", "ab.==..a", "ab.right..a", "abc.=..:a"]
        for text in wrong:
            self.fails(InvalidJump, "text", text, Jump.read, text)

    def test_wrong_windows(self):
        for before, after in (("a.", ".a"), ("aaaa.", "....a"), ("aa.", "...a"), ("aaa.", "..a"), ("aaa", "..a"),
                              ("a..", "..a"), (".a.", "..a"), ("aa.", "a.."), ("aa.", "#.a"), ("aa.", ".#a"),
                              ("aA.", "..a"), ("aa:", "..a"), ("aa.", ":.a"), ("aa.", "..A"), ("", ""),
                              ("aa.", ""), ("", "..a"), ("ax.", "..a"), ("aa.", "..x"), ("#a.", "..a")):
            self.fails(InvalidJump, "text", before, Jump, before, after)

    def test_wrong_ways(self):
        for ways in ("", "Right", ">", "=", "up", "leftright"):
            self.fails(InvalidJump, "text", "aa.", Jump, "aa.", "..a", ways)

    def test_all_windows_of_three_signs(self):
        """Every pair of windows is accepted or refused as the plain words of point 7 say."""
        for before in rows_of("#.:Aab", 3):
            for after in rows_of("#.Aab", 3):
                fits = (before[2] == "." and before[0] in "ab" and before[1] in "ab"
                        and after[0] == "." and after[1] in ".ab" and after[2] in ".ab")
                if fits:
                    self.assertEqual(Jump(before, after).windows(), [(before, after)])
                else:
                    self.fails(InvalidJump, "text", before, Jump, before, after)

    def test_all_signs_in_windows_of_four(self):
        for place in range(4):
            for sign in ALL_SIGNS:
                before = "aaa."[:place] + sign + "aaa."[place + 1:]
                after = "...a"[:place] + sign + "...a"[place + 1:]
                if sign == "." if place == 3 else sign in "abcd":
                    self.assertEqual(Jump(before, "...a").before, before)
                else:
                    self.fails(InvalidJump, "text", before, Jump, before, "...a")
                if sign == "." if place == 0 else sign in ".abcd":
                    self.assertEqual(Jump("aaa.", after).after, after)
                else:
                    self.fails(InvalidJump, "text", "aaa.", Jump, "aaa.", after)
