"""What operators, properties and the like run: which methods are called there, and what is changed.

The test follows the calls from every operator, property, `__eq__`, `__str__`, `__repr__` and
`__len__` through the functions, classes and methods of the package.
"""

import ast
import unittest

from leapcard.cards import Card
from leapcard.errors import InvalidCard
from leapcard.jumps import Jump
from tests.helpers import LeapTest
from tests.test_language import METHODS, sources

CHANGING = {"append", "clear", "extend", "insert", "pop", "remove", "reverse", "setdefault", "update", "add", "discard"}
OWN_LISTS = (ast.List, ast.ListComp, ast.Dict)


def is_start(node):
    """Whether a method runs by itself, without a call by its name."""
    if any(isinstance(mark, ast.Name) and mark.id == "property" for mark in node.decorator_list):
        return True
    return node.name.startswith("__") and node.name != "__init__"


class Package:
    """The functions, methods and attributes of the package by their names."""

    def __init__(self):
        self.functions, self.classes, self.methods, self.attributes = {}, {}, {}, set()
        self.trees = {name: ast.parse(text) for name, text in sources().items()}
        for tree in self.trees.values():
            for node in tree.body:
                if isinstance(node, ast.FunctionDef):
                    self.functions.setdefault(node.name, []).append(node)
                if isinstance(node, ast.ClassDef):
                    self.classes[node.name] = node
                    for inner in node.body:
                        if isinstance(inner, ast.FunctionDef):
                            self.methods.setdefault(inner.name, []).append(inner)
            for node in ast.walk(tree):
                if isinstance(node, ast.Attribute) and isinstance(node.ctx, ast.Store):
                    self.attributes.add(node.attr)

    def called(self, node):
        """The functions and methods that a function calls."""
        found = []
        for call in ast.walk(node):
            if isinstance(call, ast.Call) and isinstance(call.func, ast.Name):
                found += self.functions.get(call.func.id, [])
                if call.func.id in self.classes:
                    found += [inner for inner in self.classes[call.func.id].body
                              if isinstance(inner, ast.FunctionDef) and inner.name == "__init__"]
            if isinstance(call, ast.Call) and isinstance(call.func, ast.Attribute) and call.func.attr != "__init__":
                found += self.methods.get(call.func.attr, [])
        return found

    def run_by_operators(self):
        """Every function that some operator or property runs, errors' classes left out."""
        queue = [node for nodes in self.methods.values() for node in nodes if is_start(node)]
        for node in queue:
            queue += [other for other in self.called(node) if other not in queue]
        return queue


def own_names(function):
    """The local variables that are only assigned lists and dicts which the function itself creates."""
    given = {}
    for node in ast.walk(function):
        if isinstance(node, ast.Assign):
            for target in node.targets:
                if isinstance(target, ast.Name):
                    made = node.value
                    is_call = isinstance(made, ast.Call) and isinstance(made.func, ast.Name)
                    is_own = isinstance(made, OWN_LISTS) or is_call and made.func.id in ("list", "dict", "sorted")
                    given[target.id] = is_own and given.get(target.id, True)
                for inner in ast.walk(target):
                    if isinstance(inner, ast.Name) and isinstance(inner.ctx, ast.Store) and inner is not target:
                        given[inner.id] = False
        elif isinstance(node, ast.arg):
            given[node.arg] = False
    return {name for name, is_own in given.items() if is_own}


def base_name(node):
    while isinstance(node, ast.Subscript):
        node = node.value
    if isinstance(node, ast.Call) and isinstance(node.func, ast.Attribute) and node.func.attr == "setdefault":
        return base_name(node.func.value)
    return node.id if isinstance(node, ast.Name) else None


class OperatorTest(unittest.TestCase):
    def setUp(self):
        self.package = Package()
        self.nodes = self.package.run_by_operators()

    def test_the_walk_finds_what_operators_run(self):
        names = {node.name for node in self.nodes}
        self.assertLessEqual({"worth_in", "fits_worths", "signs_of", "windows", "classes_of", "combined", "state_behind",
                              "size"}, names)

    def test_no_method_is_called_that_has_the_name_of_an_attribute(self):
        self.assertLessEqual({"count", "index", "row", "signs", "name"}, self.package.attributes)
        for node in self.nodes:
            for call in ast.walk(node):
                if isinstance(call, ast.Call) and isinstance(call.func, ast.Attribute):
                    self.assertNotIn(call.func.attr, self.package.attributes, f"{node.name}:{call.lineno}")

    def test_only_own_functions_are_called(self):
        for node in self.nodes:
            given = {inner.arg for inner in ast.walk(node) if isinstance(inner, ast.arg)}
            for call in ast.walk(node):
                if isinstance(call, ast.Call) and isinstance(call.func, ast.Name):
                    self.assertNotIn(call.func.id, given | {"map"}, f"{node.name}:{call.lineno}")
                elif isinstance(call, ast.Call):
                    known = METHODS | set(self.package.methods)
                    self.assertTrue(isinstance(call.func, ast.Attribute) and call.func.attr in known,
                                    f"{node.name}:{call.lineno}")

    def test_only_own_lists_are_changed(self):
        for node in self.nodes:
            own = own_names(node)
            for inner in ast.walk(node):
                where = f"{node.name}:{getattr(inner, 'lineno', 0)}"
                if isinstance(inner, ast.Subscript) and not isinstance(inner.ctx, ast.Load):
                    self.assertIn(base_name(inner), own, where)
                if isinstance(inner, ast.Call) and isinstance(inner.func, ast.Attribute):
                    if inner.func.attr in CHANGING:
                        self.assertIn(base_name(inner.func.value), own, where)
                if isinstance(inner, ast.AugAssign) and isinstance(inner.op, ast.Add):
                    self.assertIsInstance(inner.value, ast.Constant, where)
                    self.assertIsInstance(inner.value.value, int, where)
                if isinstance(inner, ast.Attribute) and not isinstance(inner.ctx, ast.Load):
                    self.assertEqual((node.name, inner.value.id), ("__init__", "self"), where)


class CardOperatorTest(LeapTest):
    def given(self):
        return Card.read("a=1 b=2: aa.>..a bb.=.aa"), Jump.read("ab.<..b")

    def untouched(self, card, jump):
        self.assertEqual((card.worths, str(card), len(card.pairs)), ((1, 2), "a=1 b=2: aa.>..a bb.=.aa", 3))
        self.assertEqual((jump.before, jump.after, jump.ways), ("ab.", "..b", "left"))

    def test_adding(self):
        card, jump = self.given()
        self.assertEqual(str(card + jump), "a=1 b=2: aa.>..a bb.=.aa ab.<..b")
        self.assertEqual((card + jump).pairs, card.pairs + ((".ba", "b.."),))
        self.untouched(card, jump)

    def test_taking_away(self):
        card, jump = self.given()
        self.assertEqual(str(card - jump), str(card))
        self.assertIsNot(card - jump, card)
        self.assertEqual(str(card - Jump.read("bb.=.aa")), "a=1 b=2: aa.>..a")
        self.assertEqual(str(card - Jump.read("bb.>.aa")), str(card))
        self.assertEqual(str((card + jump) - jump), str(card))
        self.untouched(card, jump)

    def test_errors(self):
        card, jump = self.given()
        full = Card([1, 2], [Jump.read(f"{x}{y}.{way}..{z}") for x, y, z in ("aaa", "baa", "aba", "bba") for way in "><="])
        self.assertEqual(len(full), Card.MOST_JUMPS)
        for given, more in ((card, Jump.read("aa.>..a")), (card, Jump.read("ac.>..a")), (card, Jump.read("aa.>..b")),
                            (card, Jump.read("aa.>.aa")), (full, jump)):
            self.fails(InvalidCard, "part", "jumps", lambda: given + more)
        self.untouched(card, jump)
        self.assertEqual(str(full - Jump.read("aaa.>...a")), str(full))
