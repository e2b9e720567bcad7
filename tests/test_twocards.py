from itertools import product
from random import Random

from leapcard.cards import Card
from leapcard.closed import breaks
from leapcard.errors import InvalidBoard, NoMachine, Unlike
from leapcard.learn import learn, plain_rows
from leapcard.machine import Machine
from leapcard.targets import AtMost, OnePeg, PegAt, Shape
from leapcard.twocards import is_shared, parting, useless
from tests.helpers import LeapTest, least_of, plain_hope, some_card

RIGHT = Card.read("a=1: aa.>..a")
BOTH = Card.read("a=1: aa.=..a")
NONE = Card.read("a=1:")
LOT = OnePeg().lot_over(".a")
BOARDS = ("row", "ring")
ONE_KIND = ("a=1:", "a=1: aa.>..a", "a=1: aa.<..a", "a=1: aa.=..a", "a=1: aa.=..a aa.>..a", "a=1: aa.>..a aaa.>...a",
            "a=1: aa.>..a aa.<..a", "a=1: aa.=... aaa.>.a..")
TWO_KINDS = ("a=1 b=1: ab.>..b", "a=1 b=1: ab.>..b ba.<.b.", "a=2 b=1: ab.=..b aab.<...a", "a=1 b=1:")


def some_pairs():
    for texts, lots in ((ONE_KIND, (LOT, AtMost(2).lot_over("#.a"), PegAt().lot_over(".:Aa"))),
                        (TWO_KINDS, (OnePeg("b").lot_over(".ab"), AtMost(1, "a").lot_over(".ab")))):
        cards = [Card.read(text) for text in texts]
        for number, lot in enumerate(lots):
            # the first lot is asked with all cards, the others with some of them
            chosen = cards if number == 0 else cards[:4:2] + cards[5::2]
            for first, second, board in product(chosen, chosen, BOARDS):
                yield first, second, lot, board


def plain_parting(first, second, lot, board, most):
    """The least row up to a length for which the cards differ, or None."""
    for length in range(most + 1):
        rows = [set(plain_rows(card, lot, length, board=board)) for card in (first, second)]
        if rows[0] != rows[1]:
            return min(rows[0] ^ rows[1])
    return None


class PartingTest(LeapTest):
    def test_against_all_short_rows(self):
        seen = set()
        for first, second, lot, board in some_pairs():
            try:
                found = parting(first, second, lot, board=board, most=20)
            except NoMachine:
                self.assertEqual(len(learn(first, lot, board=board, most=20).rows), 21)
                continue
            most = 5 if len(lot.signs) < 4 else 4
            wanted = plain_parting(first, second, lot, board, most if found is None else min(len(found), 7))
            self.assertEqual(found if found is None or len(found) < 8 else None, wanted)
            if found is not None:
                self.assertNotEqual(plain_hope(first, found, lot, board), plain_hope(second, found, lot, board))
            seen.add(None if found is None else len(found))
        self.assertLessEqual({None, 3, 4}, seen)

    def test_cards_that_differ_only_for_long_rows(self):
        second = Card.read("a=1: aa.=... aa.=..a")
        first = Card.read("a=1: aa.=...")
        lot = AtMost(3).lot_over(".a")
        found = parting(first, second, lot, board="ring", most=40)
        self.assertEqual(found, ".a.a.a.aaa")
        self.assertEqual(plain_parting(first, second, lot, "ring", 10), found)
        first = Card.read("a=1: aa.<... aa.>... aaa.>.aa.")
        found = parting(first, first + RIGHT.jumps[0], lot, most=40)
        self.assertEqual(plain_parting(first, first + RIGHT.jumps[0], lot, "row", len(found)), found)
        self.assertGreater(len(found), 6)

    def test_the_least_row_need_not_be_a_break(self):
        cases = (("a=3 b=2: aa.<..b ab.<..b", "a=2 b=1: bb.=... aa.>.bb abb.>..ba", ".ab|0,1,2|1,3,2!|2,2,2|3,2,2!", "ring",
                  ".abb", ".aaa"),
                 ("a=3 b=2: ba.=.b. aa.>.ba ab.>.bb", "a=1 b=3: aa.=..a ab.<.aa bb.>.b.", ".ab|0,1,2|2,2,2!|2,2,2", "row",
                  "aa.", ".ba"),
                 ("a=3: aa.=... aa.<.a. aa.<... aaa.<.a.a", "a=2: aa.>.a. aa.<..a aa.>..a", ".a|0,1!|1,2!|2,3!|3,4!|4,4",
                  "row", "a.a..aaa", ".aaaaaaa"),
                 # here the cards agree about the break itself
                 ("a=3 b=2: aa.>... aa.=...", "a=3 b=2: ab.=.a. aa.=.ba", ".ab|0,1,1!|1,2,2!|2,3,3!|3,4,4!|4,4,4", "row",
                  ".aaab", ".baaa"),
                 ("a=2 b=2 c=3: cc.<.b. ca.>..b ca.=.ba", "a=3 b=3 c=2: ba.<.bc",
                  ".abc|0,1,1,1!|1,2,2,2!|2,3,3,3!|3,3,3,3", "ring", ".abc", ".aca"))
        for first, second, lot, board, least, wanted in cases:
            first, second, lot = Card.read(first), Card.read(second), Machine.read(lot)
            machine = learn(first, lot, board=board, most=40).machine
            shown = [row for row in breaks(second, machine, lot, board=board) if row is not None]
            self.assertEqual(least_of(shown), least)
            self.assertEqual(parting(first, second, lot, board=board, most=40), wanted)
            self.assertEqual(plain_parting(first, second, lot, board, len(wanted)), wanted)

    def test_other_cards(self):
        random = Random(38)
        lengths = []
        for number in range(240):
            kinds = 1 + number % 2
            first, second = [some_card(random, kinds, random.randrange(1, 4)) for _ in "ab"]
            if random.randrange(2):
                second = first - random.choice(first.jumps)
            target = random.choice((OnePeg(), AtMost(2), AtMost(3), OnePeg("a"), Shape(".*a.*a?.*"), Shape(".*a")))
            lot = target.lot_over(first.sign_string(walls=number % 5 == 0))
            board = random.choice(BOARDS)
            most = 7 if len(lot.signs) == 2 else 5
            try:
                found = parting(first, second, lot, board=board, most=25)
            except NoMachine:
                continue
            wanted = plain_parting(first, second, lot, board, most)
            self.assertEqual(found if found is None or len(found) <= most else None, wanted, (str(first), str(second)))
            lengths.append(len(found or ""))
        self.assertGreater(len([length for length in lengths if length > 3]), 20)

    def test_the_second_card_needs_no_small_machine(self):
        self.fails(NoMachine, "most", 17, parting, BOTH, RIGHT, LOT, most=17)
        self.assertEqual(parting(RIGHT, BOTH, LOT, most=5), ".aa")
        self.assertEqual(parting(BOTH, RIGHT, LOT, most=18), ".aa")

    def test_a_card_and_itself(self):
        self.assertIsNone(parting(BOTH, BOTH, LOT, most=18))
        self.assertIsNone(parting(BOTH, Card.read("a=1: aa.<..a aa.>..a"), LOT, most=18))
        self.assertIsNone(parting(NONE, RIGHT, AtMost(20).lot_over(".a") | Machine.everything(".a")))

    def test_errors(self):
        two = Card.read("a=1 b=1: ab.>..b")
        for lot, first, second in ((OnePeg().lot_over(".ab"), RIGHT, two), (OnePeg().lot_over(".ab"), two, RIGHT),
                                   (LOT, two, RIGHT), (LOT, RIGHT, two), (Machine.everything("a"), RIGHT, RIGHT)):
            self.fails(Unlike, "signs", lot.signs, parting, first, second, lot, most=1)
            self.fails(InvalidBoard, "board", "line", parting, first, second, lot, board="line")
        self.fails(NoMachine, "most", 4, parting, RIGHT, RIGHT, LOT, most=4)
        self.fails(NoMachine, "most", 12, parting, RIGHT, RIGHT, LOT, board="ring")


class IsSharedTest(LeapTest):
    def test_is_shared(self):
        machine = learn(BOTH, LOT, most=18).machine
        other = Card.read("a=1: aa.<..a aa.>..a")
        self.assertIs(is_shared(BOTH, other, LOT, machine), True)
        self.assertIs(is_shared(BOTH, RIGHT, LOT, machine), False)
        self.assertIs(is_shared(RIGHT, BOTH, LOT, machine), False)
        self.assertIs(is_shared(RIGHT, RIGHT, LOT, machine), False)
        self.assertIs(is_shared(BOTH, BOTH, LOT, ~machine), False)
        self.assertIs(is_shared(BOTH, BOTH, LOT, machine, board="ring"), False)
        right = learn(RIGHT, LOT, board="ring", most=27).machine
        self.assertIs(is_shared(RIGHT, RIGHT, LOT, right, board="ring"), True)
        self.assertIs(is_shared(RIGHT, RIGHT, LOT, right), False)

    def test_it_goes_with_parting(self):
        for first, second, lot, board in some_pairs():
            if len(lot.signs) < 4:
                answer = learn(first, lot, board=board, most=20)
                if answer.verdict == "found":
                    wanted = parting(first, second, lot, board=board, most=20) is None
                    self.assertIs(is_shared(first, second, lot, answer.machine, board=board), wanted)
                    self.assertIs(is_shared(second, first, lot, answer.machine, board=board), wanted)

    def test_errors(self):
        two = Card.read("a=1 b=1: ab.>..b")
        wide = OnePeg().lot_over(".ab")
        for first, second, lot in ((RIGHT, two, LOT), (two, RIGHT, LOT), (RIGHT, two, wide), (two, RIGHT, wide)):
            for machine in (Machine.everything(".a"), Machine.everything(".ab"), Machine.everything("a")):
                self.fails(Unlike, "signs", lot.signs, is_shared, first, second, lot, machine)
                self.fails(InvalidBoard, "board", "", is_shared, first, second, lot, machine, board="")
        for signs in (".ab", "#.a", "a", ".:Aa"):
            self.fails(Unlike, "signs", signs, is_shared, RIGHT, BOTH, LOT, Machine.everything(signs))


class UselessTest(LeapTest):
    def test_useless(self):
        for texts in (ONE_KIND, TWO_KINDS):
            for text in texts:
                card = Card.read(text)
                for lot in (AtMost(2).lot_over(card.sign_string()), OnePeg("a").lot_over(card.sign_string(walls=True))):
                    for board in BOARDS:
                        try:
                            wanted = [index for index, jump in enumerate(card.jumps)
                                      if parting(card, card - jump, lot, board=board, most=20) is None]
                        except NoMachine:
                            self.fails(NoMachine, "most", 20, useless, card, lot, board=board, most=20)
                            continue
                        self.assertEqual(useless(card, lot, board=board, most=20), wanted)

    def test_a_jump_that_another_one_replaces(self):
        self.assertEqual(useless(Card.read("a=1: aa.=..a aa.>..a"), LOT, most=18), [1])
        self.assertEqual(useless(Card.read("a=1: aa.>..a aa.<..a"), LOT, most=18), [])
        self.assertEqual(useless(Card.read("a=1: aa.>..a aa.=..a aa.<..a"), LOT, most=18), [0, 1, 2])
        self.assertEqual(useless(Card.read("a=1: aa.>..a"), Machine.everything(".a")), [0])

    def test_a_card_without_jumps(self):
        self.assertEqual(useless(NONE, LOT), [])

    def test_a_returned_list_may_be_changed(self):
        card = Card.read("a=1: aa.=..a aa.>..a")
        useless(card, LOT, most=18).append(7)
        self.assertEqual(useless(card, LOT, most=18), [1])

    def test_errors(self):
        self.fails(NoMachine, "most", 4, useless, RIGHT, LOT, most=4)
        self.fails(NoMachine, "most", 12, useless, BOTH, LOT)
        self.fails(Unlike, "signs", ".ab", useless, RIGHT, Machine.everything(".ab"), most=1)
        self.fails(InvalidBoard, "board", "x", useless, RIGHT, Machine.everything(".ab"), board="x")
