"""The names, parameters and kinds of methods that the document's interface lists."""

import importlib
import inspect
import unittest

FUNCTIONS = {
    "signs": ("signs_of(kinds, *, walls=False, marks=False)", "plain(row)", "marked_places(row)", "marked(row, place)",
              "pegs(row)", "mirror(row)", "turned(row, by)", "least_turn(row)", "each_row(signs, length)",
              "shortlex(signs, most)"),
    "steps": ("moves(card, row, *, board='row')", "after_move(card, row, move, *, board='row')",
              "next_rows(card, row, *, board='row')", "previous_rows(card, row, *, board='row')",
              "is_stuck(card, row, *, board='row')", "apart(card, row, first, second, *, board='row')"),
    "plays": ("replay(card, row, play, *, board='row')", "is_play(card, row, play, end, *, board='row')"),
    "reach": ("reached(card, row, *, board='row', limit=20000)", "ends(card, row, *, board='row', limit=20000)",
              "fewest_left(card, row, *, board='row', limit=20000)",
              "least_worth(card, row, *, board='row', limit=20000)",
              "shortest_full(card, row, *, board='row', limit=20000)",
              "longest_full(card, row, *, board='row', limit=20000)",
              "count_full(card, row, *, board='row', limit=20000)",
              "surely_free(card, row, *, board='row', limit=20000)",
              "find_play(card, row, goals, *, board='row', limit=20000)"),
    "compare": ("first_outside(first, second)", "first_difference(first, second)", "all_of(signs, *machines)",
                "any_of(signs, *machines)"),
    "shapes": ("mirrored(machine)", "joined(first, second)", "repeated(machine)", "behind(machine, row)",
               "widened(machine, signs)", "narrowed(machine, signs)", "with_marks(machine)"),
    "patterns": ("pattern(text, signs)",),
    "images": ("rows_before(card, machine, *, board='row')", "rows_after(card, machine, *, board='row')",
               "stuck_rows(card, signs, *, board='row')"),
    "configs": ("start_configs(card, machine, *, board='row')", "next_configs(card, machine, configs, sign)",
                "is_good(machine, config)"),
    "closed": ("breaks(card, machine, lot, *, board='row')", "is_exact(card, machine, lot, *, board='row')",
               "tables(card, machine, lot, *, board='row')", "are_closed(card, machine, lot, papers, *, board='row')"),
    "learn": ("can_reach(card, row, lot, *, board='row')", "plain_rows(card, lot, length, *, board='row')",
              "learn(card, lot, *, board='row', most=12)", "is_right(card, lot, answer, *, board='row', most=12)"),
    "measures": ("measured(card, row, measure, *, board='row')",),
    "sumcheck": ("sum_breaks(card, machine, measure, *, board='row')",
                 "is_sum_exact(card, machine, measure, *, board='row')",
                 "heights(card, machine, measure, *, board='row')",
                 "are_heights(card, machine, measure, papers, *, board='row')"),
    "sumlearn": ("learn_sum(card, signs, measure, *, board='row', most=12)",
                 "is_sum_right(card, signs, measure, answer, *, board='row', most=12)"),
    "growth": ("extremes(machine, length)", "best_row(machine, length)", "growth(machine)", "is_growth(machine, paper)"),
    "fences": ("unfenced(machine, *, left=True, right=True)", "room(machine, row, *, left=True, right=True)"),
    "rings": ("all_turns(machine)", "unturned(machine)", "ring_gain(card, lot, *, most=12)"),
    "walls": ("pieces(row)", "walled(row, gap)", "wall_effects(machine, row)"),
    "sure": ("keep_lot(card, signs, *, board='row')", "learn_free(card, *, walls=False, board='row', most=12)",
             "free_places(machine, row)"),
    "twocards": ("parting(first, second, lot, *, board='row', most=12)",
                 "is_shared(first, second, lot, machine, *, board='row')",
                 "useless(card, lot, *, board='row', most=12)"),
    "finding": ("kept_weights(card, period, modulus)", "falling_weights(card, period, high)"),
    "forbids": ("values_of(weights, lot, length)", "forbids(weights, card, lot, row)", "let_through(weights, lot)"),
}
TARGETS = ("holds(self, row)", "lot_over(self, signs)", "told(self)")
METHODS = {
    ("jumps", "Jump"): ("__init__(self, before, after, ways='right')", "windows(self)", "mirrored(self)", "read(text)",
                        "__eq__(self, other)", "__str__(self)"),
    ("cards", "Card"): ("__init__(self, worths, jumps)", "sign_string(self, *, walls=False, marks=False)",
                        "worth(self, row)", "mirrored(self)", "is_even(self)", "__add__(self, jump)",
                        "__sub__(self, jump)", "__contains__(self, jump)", "__len__(self)", "__eq__(self, other)",
                        "__str__(self)", "read(text)", "of(*jumps, worths=(1,))"),
    ("machine", "Machine"): ("__init__(self, signs, arrows, finals)", "state(self, row)", "least(self)", "first(self)",
                             "walk(self, length)", "how_many(self, length)", "is_endless(self)",
                             "__contains__(self, row)", "__eq__(self, other)", "__and__(self, other)",
                             "__or__(self, other)", "__sub__(self, other)", "__xor__(self, other)",
                             "__invert__(self)", "__str__(self)", "read(text)", "nothing(signs)", "everything(signs)",
                             "of_rows(signs, rows)"),
    ("targets", "Target"): TARGETS,
    ("targets", "OnePeg"): ("__init__(self, kind='')", *TARGETS),
    ("targets", "AtMost"): ("__init__(self, count, kind='')", *TARGETS),
    ("targets", "PegAt"): ("__init__(self, kind='')", *TARGETS),
    ("targets", "Shape"): ("__init__(self, text)", *TARGETS),
    ("targets", "Listed"): ("__init__(self, rows)", *TARGETS),
    ("targets", "Both"): ("__init__(self, *targets)", *TARGETS),
    ("targets", "Either"): ("__init__(self, *targets)", *TARGETS),
    ("targets", "Not"): ("__init__(self, target)", *TARGETS),
    ("answers", "Answer"): ("__init__(self, guesses)", "told(self)"),
    ("answers", "Found"): ("__init__(self, machine, guesses)", "told(self)"),
    ("answers", "Parted"): ("__init__(self, rows, endings, guesses)", "told(self)"),
    ("answers", "SumFound"): ("__init__(self, machine, guesses)", "told(self)"),
    ("answers", "SumParted"): ("__init__(self, rows, endings, guesses)", "told(self)"),
    ("guide", "Guide"): ("__init__(self, card, machine, lot, *, board='row')", "of(card, lot, *, board='row', most=12)",
                         "has_hope(self, row)", "keeping(self, row)", "to_lot(self, row)", "watched(self, row, play)",
                         "blame(self, row, play)", "nearest(self, row)"),
    ("sums", "SumMachine"): ("__init__(self, signs, arrows, sums)", "state(self, row)", "value(self, row)",
                             "least(self)", "at_most(self, number)", "__add__(self, other)", "__sub__(self, other)",
                             "__neg__(self)", "__mul__(self, number)", "__eq__(self, other)", "zero(signs)",
                             "weights(signs, table)"),
    ("weights", "Weights"): ("__init__(self, period, modulus, table)", "value(self, row)", "is_kept(self, card)",
                             "falls(self, card)", "__add__(self, other)", "__sub__(self, other)", "__neg__(self)",
                             "__mul__(self, number)", "__eq__(self, other)"),
    ("hidden", "Hidden"): ("__init__(self, worths, candidates, known=())", "see(self, *sights)", "fits(self)",
                           "surely_on(self)", "surely_off(self)", "undecided(self)", "card_of(self, choice)",
                           "question(self, length)"),
    ("ledger", "Ledger"): ("__init__(self, worths, candidates, lot)", "tell(self, *facts)", "take_back(self, fact)",
                           "closed(self)", "knows(self, fact)", "clashes(self)", "why(self, fact)", "twin(self)"),
    ("desk", "Desk"): ("__init__(self, guide, row, *, quota=60)", "change(self, name, number)", "moves(self)",
                       "keeping(self)", "do(self, *moves)", "back(self, count=1)", "again(self, count=1)",
                       "has_hope(self)", "lost_at(self)", "finish(self)", "__len__(self)", "twin(self)", "lines(self)"),
}
STATIC = {"read", "of", "nothing", "everything", "of_rows", "zero", "weights"}


class InterfaceTest(unittest.TestCase):
    def test_functions(self):
        for name, texts in FUNCTIONS.items():
            module = importlib.import_module("leapcard." + name)
            for text in texts:
                found = getattr(module, text.partition("(")[0])
                self.assertEqual(found.__name__ + str(inspect.signature(found)), text)
                self.assertEqual(found.__module__, "leapcard." + name)

    def test_methods(self):
        for (name, class_name), texts in METHODS.items():
            owner = getattr(importlib.import_module("leapcard." + name), class_name)
            self.assertEqual(owner.__module__, "leapcard." + name)
            for text in texts:
                method = text.partition("(")[0]
                found = owner.__dict__[method]
                self.assertEqual(isinstance(found, staticmethod), method in STATIC)
                found = found.__func__ if method in STATIC else found
                self.assertEqual(method + str(inspect.signature(found)), text)

    def test_generators_and_properties(self):
        from leapcard.desk import Desk
        from leapcard.guide import Guide
        from leapcard.hidden import Hidden
        from leapcard.ledger import Ledger
        from leapcard.machine import Machine
        from leapcard.signs import each_row, shortlex
        from leapcard.sums import SumMachine
        for call in (each_row, shortlex, Machine.walk, Guide.watched):
            self.assertTrue(inspect.isgeneratorfunction(call))
        for owner in (Machine, SumMachine):
            self.assertIsInstance(owner.__dict__["size"], property)
        for owner, names in ((Desk, ("present", "played", "quota", "moves_left")), (Hidden, ("sights",)),
                             (Ledger, ("told_facts",))):
            for name in names:
                self.assertIsInstance(owner.__dict__[name], property)
        self.assertIsNotNone(Desk.quota.fset)
