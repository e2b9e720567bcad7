from leapcard.cards import Card
from leapcard.errors import InvalidCard, InvalidJump, InvalidRow
from leapcard.jumps import Jump
from tests.helpers import LeapTest

PAGODA = "a=1 b=2 c=4: ab.>..b aab.=...b cc.<..c"


def many_jumps(count):
    """Different jumps for a card with two kinds of the worth 1."""
    texts = [f"{x}{y}.{way}..{z}" for x in "ab" for y in "ab" for z in "ab" for way in "><="]
    return [Jump.read(text) for text in texts[:count]]


class CardTest(LeapTest):
    def test_examples(self):
        self.assertEqual(str(Card.read("a=1 b=2: aa.=..a bb.>.aa")), "a=1 b=2: aa.=..a bb.>.aa")
        self.fails(InvalidCard, "part", "jumps", Card.read, "a=1: aa.>.aa")

    def test_attributes(self):
        card = Card([1, 2], [Jump.read("aa.=..a"), Jump.read("bb.>.aa")])
        self.assertEqual(card.worths, (1, 2))
        self.assertEqual(card.jumps, (Jump.read("aa.=..a"), Jump.read("bb.>.aa")))
        self.assertEqual(card.pairs, (("aa.", "..a"), (".aa", "a.."), ("bb.", ".aa")))
        self.assertIsInstance(card.worths, tuple)
        self.assertIsInstance(card.jumps, tuple)
        self.assertIsInstance(card.pairs, tuple)
        self.assertEqual(Card.MOST_JUMPS, 12)

    def test_a_pair_that_comes_again_stands_once(self):
        card = Card.read("a=1 b=1: aa.<..a aa.=..a ab.>..a aa.>..a aa.>...")
        self.assertEqual(card.pairs, ((".aa", "a.."), ("aa.", "..a"), ("ab.", "..a"), ("aa.", "...")))

    def test_lists_are_copied(self):
        worths, jumps = [1], [Jump.read("aa.=..a")]
        card = Card(worths, jumps)
        worths.append(5)
        jumps.clear()
        self.assertEqual(str(card), "a=1: aa.=..a")
        self.assertEqual(Card((1,), (Jump.read("aa.=..a"),)), card)

    def test_worths(self):
        for worths in ([1], [1000], [1, 1, 1, 1], [1000, 1, 5, 7]):
            self.assertEqual(Card(worths, []).worths, tuple(worths))
        for worths in ([], [0], [1001], [-1], [1, 0], [1, 2, 3, 4, 5], [1, 1, 1, 1001], [10**30]):
            self.fails(InvalidCard, "part", "worths", Card, worths, [])

    def test_number_of_jumps(self):
        self.assertEqual(Card([1, 1], []).pairs, ())
        self.assertEqual(len(Card([1, 1], many_jumps(12))), 12)
        self.fails(InvalidCard, "part", "jumps", Card, [1, 1], many_jumps(13))

    def test_equal_jumps(self):
        jump = Jump.read("aa.=..a")
        self.fails(InvalidCard, "part", "jumps", Card, [1], [jump, Jump.read("aa.>..a"), Jump.read("aa.=..a")])
        self.assertEqual(len(Card([1], [jump, Jump.read("aa.>..a"), Jump.read("aa.<..a")])), 3)

    def test_kinds_of_the_jumps(self):
        for text in ("ab.>..a", "ba.>..a", "aa.>..b"):
            self.fails(InvalidCard, "part", "jumps", Card, [9], [Jump.read(text)])
            self.assertEqual(len(Card([9, 1], [Jump.read(text)])), 1)
        self.fails(InvalidCard, "part", "jumps", Card, [1, 1, 1], [Jump.read("aad.>...a")])

    def test_the_worth_must_fall(self):
        self.assertEqual(len(Card([1, 3], [Jump.read("ab.>.aa")])), 1)
        self.fails(InvalidCard, "part", "jumps", Card, [1, 1], [Jump.read("ab.>.aa")])
        self.fails(InvalidCard, "part", "jumps", Card, [1, 2], [Jump.read("aa.>..b")])
        self.fails(InvalidCard, "part", "jumps", Card, [1, 3], [Jump.read("aa.>..b")])
        self.assertEqual(len(Card([2, 3], [Jump.read("aa.>..b")])), 1)
        self.assertEqual(len(Card([1, 2], [Jump.read("aaa.>...b")])), 1)

    def test_worths_come_before_jumps(self):
        self.fails(InvalidCard, "part", "worths", Card, [0], [Jump.read("bb.>..a")])
        self.fails(InvalidCard, "part", "worths", Card, [], many_jumps(13))

    def test_sign_string(self):
        card = Card.read(PAGODA)
        self.assertEqual(card.sign_string(), ".abc")
        self.assertEqual(card.sign_string(walls=True), "#.abc")
        self.assertEqual(card.sign_string(marks=True), ".:ABCabc")
        self.assertEqual(card.sign_string(walls=True, marks=True), "#.:ABCabc")

    def test_worth(self):
        card = Card.read(PAGODA)
        self.assertEqual(card.worth(""), 0)
        self.assertEqual(card.worth("#.:aAbBcC"), 14)
        self.assertEqual(card.worth("c" * 60), 240)
        for row in ("d", "aD", "x", "a "):
            self.fails(InvalidRow, "row", row, card.worth, row)

    def test_mirrored(self):
        card = Card.read(PAGODA)
        self.assertEqual(str(card.mirrored()), "a=1 b=2 c=4: ab.<..b aab.=...b cc.>..c")
        self.assertEqual(card.mirrored().mirrored(), card)

    def test_is_even(self):
        for text, even in (("a=1:", True), ("a=1: aa.=..a", True), ("a=1: aa.>..a", False), ("a=1: aa.<..a", False),
                           ("a=1: aa.>..a aa.<..a", True), ("a=1: aa.=..a aa.>..a", True),
                           ("a=1 b=1: aa.=..a ab.>..a", False), (PAGODA, False)):
            self.assertIs(Card.read(text).is_even(), even, text)

    def test_adding_and_taking_away(self):
        card = Card.read("a=1: aa.>..a")
        more = card + Jump.read("aa.<..a")
        self.assertEqual(str(more), "a=1: aa.>..a aa.<..a")
        self.assertEqual(str(card), "a=1: aa.>..a")
        self.assertEqual(str(more - Jump.read("aa.>..a")), "a=1: aa.<..a")
        self.assertEqual(more - Jump.read("aa.=..a"), more)
        self.assertEqual(str(card - Jump.read("aa.>..a")), "a=1:")
        for text in ("aa.>..a", "ab.>..a", "aa.>.aa"):
            with self.assertRaises(InvalidCard) as caught:
                card + Jump.read(text)
            self.assertEqual(caught.exception.part, "jumps")
        with self.assertRaises(InvalidCard):
            Card([1, 1], many_jumps(12)) + Jump.read("bb.=..b")

    def test_in_and_len(self):
        card = Card.read(PAGODA)
        self.assertTrue(Jump.read("cc.<..c") in card)
        self.assertFalse(Jump.read("cc.>..c") in card)
        self.assertEqual(len(card), 3)
        self.assertEqual(len(Card.read("a=7:")), 0)

    def test_equality(self):
        card = Card.read("a=1: aa.>..a aa.<..a")
        self.assertTrue(card == Card([1], [Jump("aa.", "..a"), Jump("aa.", "..a", "left")]))
        for text in ("a=1: aa.<..a aa.>..a", "a=2: aa.>..a aa.<..a", "a=1: aa.>..a", "a=1 b=1: aa.>..a aa.<..a"):
            self.assertFalse(card == Card.read(text))
            self.assertTrue(card != Card.read(text))
        self.assertFalse(card == str(card))

    def test_of(self):
        self.assertEqual(Card.of(), Card([1], []))
        self.assertEqual(Card.of(Jump.read("aa.>..a")), Card.read("a=1: aa.>..a"))
        self.assertEqual(Card.of(Jump.read("bb.>..a"), worths=[1, 2]), Card.read("a=1 b=2: bb.>..a"))
        self.assertIsInstance(Card.__dict__["of"], staticmethod)
        self.fails(InvalidCard, "part", "jumps", Card.of, Jump.read("bb.>..a"))
        self.fails(InvalidCard, "part", "worths", Card.of, Jump.read("bb.>..a"), worths=())


class CardTextTest(LeapTest):
    def test_texts(self):
        for text in ("a=1:", "a=1000:", "a=1 b=20 c=300 d=999:", PAGODA, "a=1: aa.>..a aa.=..a"):
            self.assertEqual(str(Card.read(text)), text)

    def test_texts_that_are_nearly_right(self):
        right = "a=1 b=20: aa.=..a bb.>.aa"
        wrong = [right[:k] + extra + right[k:] for k in range(len(right) + 1) for extra in (" ", "\n", ":")]
        wrong += [right[:k] + right[k + 1:] for k in range(len(right)) if k != 7]
        wrong += ["", ":", "a=1", "a=:", "a:", "=1:", " a=1:", "a=1 :", "a=1: ", "a=1:aa.=..a", "a=1:  aa.=..a",
                  "a=1: aa.=..a ", "a=01:", "a=0:", "a=00001:", "a=12345:", "a=-1:", "a=+1:", "a=1.0:", "a=1,b=2:",
                  "b=1:", "a=1 a=2:", "a=1 c=2:", "b=1 a=2:", "A=1:", "a=1 b=1 c=1 d=1 e=1:", "a=1: aa=..a",
                  "a=\u0661:", "a=\u00b2:", "a=1: aa.=..a: aa.>..a", "a=1 b:", "a=1: x", "a=1\n:", "a=1:\n"]
        for text in wrong:
            self.fails(InvalidCard, "part", "text", Card.read, text)

    def test_errors_of_the_class(self):
        for text in ("a=1001:", "a=9999 b=1: aa.>.aa", "a=1 b=1001:"):
            self.fails(InvalidCard, "part", "worths", Card.read, text)
        for text in ("a=1: bb.>..a", "a=1: aa.>..a aa.>..a", "a=1: aa.>.aa",
                     "a=1 b=1: " + " ".join(str(jump) for jump in many_jumps(13))):
            self.fails(InvalidCard, "part", "jumps", Card.read, text)
        self.assertEqual(len(Card.read("a=1 b=1: " + " ".join(str(jump) for jump in many_jumps(12)))), 12)

    def test_a_wrong_text_comes_before_wrong_worths(self):
        self.fails(InvalidCard, "part", "text", Card.read, "a=1001: aa.>..a ")
        self.fails(InvalidCard, "part", "text", Card.read, "a=1: bb.>..a aa.>..")

    def test_a_jump_error_does_not_get_out(self):
        try:
            Card.read("a=1: aa.>..aa")
        except InvalidJump:
            self.fail("a jump's error got out")
        except InvalidCard:
            pass
