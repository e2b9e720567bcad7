from itertools import combinations
from random import Random

from leapcard.cards import Card
from leapcard.errors import InvalidCard, InvalidSight
from leapcard.hidden import Hidden
from leapcard.jumps import Jump
from tests.helpers import LeapTest, plain_moves, plain_next, plain_reached, rows_up_to


def jumps(*texts):
    return [Jump.read(text) for text in texts]


THREE = jumps("aa.>..a", "aa.<..a", "aaa.>...a")
MIXED = jumps("ab.>..b", "bb.=.aa", "ba.<.b.", "aa.>..a")
SETTINGS = (([1], THREE, []), ([1], THREE, jumps("aa.>.a.")), ([1], THREE[:1], THREE[1:]), ([1, 2], MIXED, []),
            ([1, 2], MIXED, jumps("ab.<..a")), ([1], jumps("aa.=..a", "aa.<..a"), jumps("aa.>..a")))


def all_choices(count):
    return sorted(choice for size in range(count + 1) for choice in combinations(range(count), size))


def plain_truth(card, sight):
    """Whether a sight is true for a card, by plain playing-out."""
    word, row, *ends = sight
    if word == "stuck":
        return plain_moves(card, row, "row") == []
    if word == "leads":
        return ends[0] in plain_next(card, row, "row")
    return (ends[0] in plain_reached(card, row, "row")) == (word == "down")


def plain_fits(worths, candidates, known, sights):
    """The choices for whose cards all sights are true."""
    cards = {choice: Card(worths, [*known, *[candidates[index] for index in choice]])
             for choice in all_choices(len(candidates))}
    return [choice for choice, card in cards.items() if all(plain_truth(card, sight) for sight in sights)]


def some_sights(random, signs, card):
    """A sight, true for this card or not."""
    row = "".join(random.choice(signs) for _ in range(random.randrange(3, 7)))
    word = random.choice(("leads", "stuck", "down", "never"))
    if word == "stuck":
        return word, row
    ends = sorted(plain_reached(card, row, "row")) + ["".join(random.choice(signs) for _ in row), row]
    return word, row, random.choice(ends)


class HiddenTest(LeapTest):
    def test_without_a_sight(self):
        for worths, candidates, known in SETTINGS:
            hidden = Hidden(worths, candidates, known)
            indexes = list(range(len(candidates)))
            self.assertEqual(hidden.sights, [])
            self.assertEqual(hidden.fits(), all_choices(len(candidates)))
            self.assertEqual((hidden.surely_on(), hidden.surely_off(), hidden.undecided()), ([], [], indexes))

    def test_the_order_of_the_choices(self):
        self.assertEqual(Hidden([1], THREE).fits(), [(), (0,), (0, 1), (0, 1, 2), (0, 2), (1,), (1, 2), (2,)])

    def test_against_all_choices(self):
        random = Random(42)
        for worths, candidates, known in SETTINGS:
            whole = Card(worths, known + candidates)
            signs = whole.sign_string(walls=True)
            for _ in range(60):
                hidden, sights = Hidden(worths, candidates, known), []
                for _ in range(random.randrange(1, 5)):
                    sight = some_sights(random, signs if random.randrange(2) else whole.sign_string(), whole)
                    hidden.see(sight)
                    sights.append(sight)
                wanted = plain_fits(worths, candidates, known, sights)
                self.assertEqual(hidden.fits(), wanted, sights)
                self.assertEqual(hidden.sights, sights)
                indexes = range(len(candidates))
                self.assertEqual(hidden.surely_on(), [k for k in indexes if all(k in choice for choice in wanted)])
                self.assertEqual(hidden.surely_off(), [k for k in indexes if not any(k in choice for choice in wanted)])
                mixed = [k for k in indexes if any(k in c for c in wanted) and not all(k in c for c in wanted)]
                self.assertEqual(hidden.undecided(), mixed)

    def test_each_word(self):
        for sight, wanted in ((("leads", "aa.", "..a"), [(0,), (0, 1), (0, 1, 2), (0, 2)]), (("stuck", "aa."), [(), (1,), (1, 2), (2,)]),
                              (("down", "aa.a", "a..."), []), (("down", ".aa.", "...a"), [(0,), (0, 1), (0, 1, 2), (0, 2)]),
                              (("never", "aaa.", "...a"), [(), (0,), (0, 1), (1,)]), (("leads", "aaa.", "aaa."), []),
                              (("down", "aaa.", "aaa."), all_choices(3)), (("never", "aa", "aa"), []),
                              (("never", "a.", ".a"), all_choices(3)), (("stuck", ""), all_choices(3)),
                              (("down", "aa.#aa.", "..a#..a"), [(0,), (0, 1), (0, 1, 2), (0, 2)]),
                              (("down", "aa.#aa.", "..a#aa."), [(0,), (0, 1), (0, 1, 2), (0, 2)]),
                              (("never", "aa.#", "..a."), all_choices(3)), (("down", "#", "#"), all_choices(3))):
            hidden = Hidden([1], THREE)
            hidden.see(sight)
            self.assertEqual(hidden.fits(), wanted, sight)

    def test_sights_that_contradict_each_other(self):
        hidden = Hidden([1], THREE)
        hidden.see(("leads", "aa.", "..a"), ("stuck", "aa."))
        self.assertEqual((hidden.fits(), hidden.undecided()), ([], []))
        self.assertEqual((hidden.surely_on(), hidden.surely_off()), ([0, 1, 2], [0, 1, 2]))
        self.assertIsNone(hidden.question(8))

    def test_a_window_that_a_known_jump_has_too(self):
        hidden = Hidden([1], jumps("aa.=..a", "aa.<..a"), jumps("aa.>..a"))
        hidden.see(("leads", "aa.", "..a"))
        self.assertEqual(len(hidden.fits()), 4)
        hidden.see(("never", ".aa", "a.."))
        self.assertEqual(hidden.fits(), [()])

    def test_long_rows(self):
        hidden = Hidden([1], THREE)
        row = "aa.#" * 15
        hidden.see(("down", row, "..a#" * 15), ("never", row, ".a.#" * 15))
        self.assertEqual(hidden.surely_on(), [0])
        hidden.see(("never", "a" * 20 + "." + "a" * 20, "a" * 17 + "...." + "a" * 20))
        self.assertEqual((hidden.surely_on(), hidden.surely_off()), ([0], []))

    def test_lists_are_copied(self):
        worths, candidates, known = [1], list(THREE[:2]), list(THREE[2:])
        hidden = Hidden(worths, candidates, known)
        worths.append(5)
        candidates.clear()
        known.clear()
        hidden.sights.append("x")
        hidden.fits().clear()
        hidden.undecided().clear()
        self.assertEqual(hidden.sights, [])
        self.assertEqual(hidden.undecided(), [0, 1])
        self.assertEqual(str(hidden.card_of((1,))), "a=1: aaa.>...a aa.<..a")

    def test_errors_of_the_class(self):
        nine = jumps(*[f"{x}{y}.{way}..{z}" for x, y, z in ("aaa", "baa", "abb") for way in "><="])
        self.assertEqual(len(Hidden([1, 1], nine[:8]).fits()), 256)
        for candidates, known in (([], []), ([], THREE), (nine, []), (THREE, THREE[:1]), (THREE + THREE[:1], []),
                                  (jumps("ac.>..a"), []), (jumps("aa.>.aa"), []), (nine[:8], nine[8:] + THREE + MIXED),
                                  (THREE, jumps("aa.>.aa"))):
            self.fails(InvalidCard, "part", "jumps", Hidden, [1, 1], candidates, known)
            for worths in ([], [0], [1001], [1] * 5):
                self.fails(InvalidCard, "part", "worths", Hidden, worths, candidates, known)
        self.assertEqual(len(Hidden([1, 1], nine[:8], jumps("bb.>..b", "bb.<..b", "bb.=..b", "bb.>..a")).fits()), 256)
        self.fails(InvalidCard, "part", "jumps", Hidden, [1, 1], nine[:8],
                   jumps("bb.>..b", "bb.<..b", "bb.=..b", "bb.>..a", "bb.<..a"))


class SightTest(LeapTest):
    WRONG = (("leads", "aa."), ("leads", "aa.", "..a", "..a"), ("stuck", "aa.", "aa."), ("stuck",), ("down", "aa."),
             ("never", "a"), ("seen", "aa."), ("seen", "aa.", "..a"), ("seen",), ("", "aa."), ("Stuck", "aa."),
             ["stuck", "aa."], ["leads", "aa.", "..a"], (), "stuck", "stuck aa.", ("stuck", 3), ("stuck", None),
             ("stuck", ("a",)), ("leads", "aa.", 7), ("leads", ["aa."], "..a"), (3, "aa."), (["stuck"], "aa."), None,
             ("stuck", "A."), ("stuck", ":"), ("leads", "aA.", "..a"), ("down", "aa.", "..A"), ("stuck", "b"),
             ("stuck", "x"), ("never", "aa.", "..b"), ("leads", "aa.", "..a."), ("down", "aa.", ""), ("never", "", "."))

    def test_refused_sights(self):
        for wrong in self.WRONG:
            hidden = Hidden([1], THREE)
            hidden.see(("stuck", "aa."))
            self.fails(InvalidSight, "sight", wrong, hidden.see, wrong)
            self.fails(InvalidSight, "sight", wrong, hidden.see, ("leads", ".aa", "a.."), wrong, ("stuck",))
            self.assertEqual(hidden.sights, [("stuck", "aa.")])
            self.assertEqual(hidden.fits(), [(), (1,), (1, 2), (2,)])

    def test_all_sights_are_kept(self):
        hidden = Hidden([1], THREE)
        sights = [("stuck", "aa."), ("never", ".aa", "a.."), ("stuck", "aa."), ("leads", "aaa.", "...a")]
        self.assertIsNone(hidden.see(*sights[:2]))
        self.assertIsNone(hidden.see())
        hidden.see(*sights[2:])
        self.assertEqual(hidden.sights, sights)
        self.assertEqual(hidden.fits(), [(2,)])

    def test_signs_of_the_card(self):
        hidden = Hidden([1, 2], MIXED)
        hidden.see(("stuck", "#ab"), ("leads", "ab.#", "..b#"))
        self.assertEqual(hidden.surely_on(), [0])


class CardOfTest(LeapTest):
    def test_card_of(self):
        for worths, candidates, known in SETTINGS:
            hidden = Hidden(worths, candidates, known)
            for choice in hidden.fits():
                card = hidden.card_of(choice)
                self.assertEqual(card, Card(worths, [*known, *[candidates[index] for index in choice]]))
        self.assertEqual(str(Hidden([1], THREE).card_of(())), "a=1:")

    def test_a_choice_that_does_not_fit_has_a_card(self):
        hidden = Hidden([1], THREE)
        hidden.see(("stuck", "aa."))
        self.assertEqual(str(hidden.card_of((0,))), "a=1: aa.>..a")

    def test_errors(self):
        hidden = Hidden([1], THREE)
        for choice in ((1, 0), (0, 0), (3,), (-1,), (0, 1, 3), [0, 1], [], 0, None, "0", ("0",), (0, 2, 1)):
            self.fails(InvalidSight, "sight", choice, hidden.card_of, choice)


class QuestionTest(LeapTest):
    def plain_question(self, hidden, length):
        fits = hidden.fits()
        cards = [hidden.card_of(choice) for choice in fits]
        best = None
        for row in rows_up_to(hidden.card_of(()).sign_string(), length):
            stuck = sum(plain_moves(card, row, "row") == [] for card in cards)
            if 0 < stuck < len(cards):
                if best is None or abs(2 * stuck - len(cards)) < best[0]:
                    best = abs(2 * stuck - len(cards)), row
        return None if best is None else best[1]

    def test_against_all_rows_and_choices(self):
        random = Random(43)
        found = {}
        for worths, candidates, known in SETTINGS:
            whole = Card(worths, known + candidates)
            for number in range(8):
                hidden = Hidden(worths, candidates, known)
                for _ in range(number % 4):
                    hidden.see(some_sights(random, whole.sign_string(), whole))
                most = 7 if len(worths) == 1 else 4
                for length in (0, 2, 3, 4, most):
                    row = hidden.question(length)
                    self.assertEqual(row, self.plain_question(hidden, length), (hidden.sights, length))
                    found[row] = True
        self.assertGreater(len(found), 3)

    def test_a_row_with_two_windows(self):
        # at most one of the candidates is on the card, so two windows split the choices most evenly
        kinds = "abcd"
        hidden = Hidden([1, 1, 1, 1], jumps(*[f"{kind}{kind}.>..{kind}" for kind in kinds]))
        for x, y in combinations(kinds, 2):
            hidden.see(("never", f"{x}{x}.#{y}{y}.", f"..{x}#..{y}"))
        self.assertEqual(hidden.fits(), [(), (0,), (1,), (2,), (3,)])
        self.assertEqual([hidden.question(length) for length in (2, 3, 5, 6, 8)], [None, "aa.", "aa.", "aa.bb.", "aa.bb."])
        hidden.see(("leads", "aaa.bbb.", "a..abbb."), ("stuck", "bb."))
        self.assertIsNone(hidden.question(8))

    def test_several_rows_as_good(self):
        # half of the choices have each of the three candidates
        hidden = Hidden([1], THREE)
        self.assertEqual([hidden.question(length) for length in range(9)], [None, None, None] + [".aa"] * 6)
        # with both of these a row is not stuck for three choices of four
        hidden = Hidden([1], jumps("aa.>..a", "aaa.<...a"))
        self.assertEqual(hidden.question(8), "aa.")

    def test_a_longer_row_is_better(self):
        hidden = Hidden([1], jumps("aa.>..a", "aa.<..a", "aaa.>...a"))
        hidden.see(("down", ".aa.aaa.", ".aa....a"), ("never", "aaa.", "aaa."))
        self.assertIsNone(hidden.question(8))
        hidden = Hidden([1], jumps("aaa.>...a", "aaa.<...a"), [])
        self.assertEqual([hidden.question(length) for length in (3, 4, 8)], [None, ".aaa", ".aaa"])

    def test_where_there_is_none(self):
        hidden = Hidden([1], THREE, jumps("aa.=.a."))
        self.assertIsNone(hidden.question(8))
        hidden = Hidden([1], THREE)
        hidden.see(("stuck", "aa.aaa.aa"))
        self.assertEqual(hidden.fits(), [()])
        self.assertIsNone(hidden.question(8))
        self.assertIsNone(Hidden([1], THREE).question(0))
        self.assertIsNone(Hidden([1], THREE).question(2))

    def test_four_kinds(self):
        hidden = Hidden([1, 1, 1, 1], jumps("dd.>..d", "cd.>..d", "ddd.<...d", "ca.=..a", "bb.<..a", "ab.>..c", "aa.=..d", "bd.>..a"))
        self.assertEqual(hidden.question(8), self.plain_question(hidden, 3))
