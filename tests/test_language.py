"""The files of the package keep to the small part of Python that the project allows.

The test reads the files without running them. It looks at what a reader would otherwise have to
count or search for; it does not know every rule.
"""

import ast
import builtins
import unittest
from pathlib import Path

FOLDER = Path(__file__).resolve().parent.parent / "leapcard"
BUILTINS = set("""len range enumerate zip min max sum abs sorted reversed int str bool bytes list tuple dict set
    frozenset isinstance ord repr any all divmod Exception ValueError TypeError KeyError IndexError LookupError
    ZeroDivisionError ArithmeticError OverflowError RuntimeError NotImplementedError AttributeError StopIteration
    NotImplemented staticmethod classmethod property super iter next map""".split())
METHODS = set("""append clear copy count endswith extend find get index insert isalnum isalpha isdigit islower isspace
    isupper items join keys ljust lower lstrip partition pop remove replace reverse rfind rjust rpartition rsplit rstrip
    setdefault split splitlines startswith strip update upper values zfill bit_length removeprefix removesuffix add
    discard""".split())
LIBRARY = {"heapq": {"heappush", "heappop", "heapify"}, "math": {"gcd", "lcm", "isqrt", "comb", "factorial"},
           "itertools": {"product", "combinations", "permutations"}}
STATEMENTS = (ast.Assign, ast.AugAssign, ast.If, ast.While, ast.For, ast.Return, ast.Break, ast.Continue, ast.Pass,
              ast.Raise, ast.Assert, ast.Delete, ast.Try, ast.Expr, ast.FunctionDef, ast.ClassDef, ast.ImportFrom)
BARRED = (ast.Await, ast.Lambda, ast.NamedExpr, ast.Div, ast.AnnAssign, ast.Global, ast.AsyncFunctionDef, ast.With,
          ast.Match, ast.Import, ast.GeneratorExp)
BARRED_NAMES = set("""register mro elements open input law type vars dir id eval exec exit hash getattr setattr hasattr
    globals locals compile help quit os sys gc format print""".split())
CALM = ("__eq__", "__str__", "__repr__", "__len__")


def sources():
    return {path.stem: path.read_text(encoding="utf-8") for path in sorted(FOLDER.glob("*.py"))}


def bound_names(tree):
    """Every name that is given to something below a node, with the node that does so."""
    for node in ast.walk(tree):
        if isinstance(node, (ast.FunctionDef, ast.ClassDef)):
            yield node.name, node
        elif isinstance(node, ast.arg):
            yield node.arg, node
        elif isinstance(node, ast.Name) and isinstance(node.ctx, ast.Store):
            yield node.id, node
        elif isinstance(node, ast.ExceptHandler) and node.name:
            yield node.name, node


class LanguageTest(unittest.TestCase):
    def setUp(self):
        self.files = sources()
        self.trees = {name: ast.parse(text) for name, text in self.files.items()}

    def each_node(self):
        for name, tree in self.trees.items():
            for node in ast.walk(tree):
                yield f"{name}:{getattr(node, 'lineno', 0)}", node

    def test_folder(self):
        for path in FOLDER.iterdir():
            self.assertTrue(path.suffix == ".py" or path.name == "__pycache__", path)

    def test_characters_and_sizes(self):
        for name, text in self.files.items():
            self.assertTrue(all(sign == "\n" or " " <= sign <= "~" for sign in text), name)
            lines = text.split("\n")
            self.assertLess(len(lines), 400, name)
            self.assertLessEqual(max(len(line) for line in lines), 120, name)

    def test_functions_have_at_most_forty_lines(self):
        for where, node in self.each_node():
            if isinstance(node, ast.FunctionDef):
                self.assertLessEqual(node.end_lineno - node.lineno + 1, 40, where)

    def test_imports(self):
        wanted = {}
        for name, tree in self.trees.items():
            for node in ast.walk(tree):
                if isinstance(node, ast.ImportFrom):
                    self.assertEqual(node.level, 0, name)
                    self.assertIn(node, tree.body)
                    names = [alias.name for alias in node.names]
                    self.assertTrue(all(alias.asname is None for alias in node.names), name)
                    if node.module in LIBRARY:
                        self.assertLessEqual(set(names), LIBRARY[node.module], name)
                    else:
                        package, _, file = node.module.partition(".")
                        self.assertEqual(package, "leapcard", name)
                        wanted.setdefault(name, set()).add(file)
                        for imported in names:
                            self.assertIn(imported, self.top_names(file), f"{name} {imported}")
        self.assert_no_circle(wanted)

    def top_names(self, file):
        """The names that a file itself defines."""
        found = [node.name for node in self.trees[file].body if isinstance(node, (ast.FunctionDef, ast.ClassDef))]
        for node in self.trees[file].body:
            if isinstance(node, ast.Assign):
                found += [target.id for target in node.targets]
        return found

    def assert_no_circle(self, wanted):
        left = dict(wanted)
        while left:
            done = [name for name, files in left.items() if not files & set(left)]
            self.assertTrue(done, f"files import in a circle: {sorted(left)}")
            for name in done:
                del left[name]

    def test_imports_are_used(self):
        for name, tree in self.trees.items():
            read = {node.id for node in ast.walk(tree) if isinstance(node, ast.Name)}
            for node in tree.body:
                if isinstance(node, ast.ImportFrom):
                    self.assertLessEqual({alias.name for alias in node.names}, read, name)

    def test_statements_and_expressions(self):
        for where, node in self.each_node():
            if isinstance(node, ast.stmt):
                self.assertIsInstance(node, STATEMENTS, where)
            self.assertNotIsInstance(node, BARRED, where)
            if isinstance(node, ast.Constant):
                self.assertNotIsInstance(node.value, (float, complex), where)
                if isinstance(node.value, str):
                    self.assertNotIn("%", node.value, where)
            if isinstance(node, ast.arg):
                self.assertIsNone(node.annotation, where)

    def test_module_level(self):
        for name, tree in self.trees.items():
            for at, node in enumerate(tree.body):
                is_docstring = at == 0 and isinstance(node, ast.Expr)
                self.assertTrue(is_docstring or isinstance(node, (ast.ImportFrom, ast.FunctionDef, ast.ClassDef,
                                                                  ast.Assign)), name)
            self.assertEqual(len(self.top_names(name)), len(set(self.top_names(name))), name)

    def test_names(self):
        known = set(dir(builtins))
        for name, tree in self.trees.items():
            imported = {alias.name for node in tree.body if isinstance(node, ast.ImportFrom) for alias in node.names}
            classes = {node.name for node in tree.body if isinstance(node, ast.ClassDef)}
            for bound, node in bound_names(tree):
                where = f"{name}:{node.lineno} {bound}"
                self.assertNotIn(bound, imported, where)
                self.assertNotIn(bound, known | BARRED_NAMES, where)
                if not isinstance(node, ast.ClassDef):
                    self.assertNotIn(bound, classes, where)
                if not isinstance(node, ast.FunctionDef):
                    self.assertFalse(bound.startswith("__"), where)

    def test_methods_and_attributes_have_different_names(self):
        attributes = {node.attr for _, node in self.each_node()
                      if isinstance(node, ast.Attribute) and isinstance(node.ctx, ast.Store)}
        named = {"plain": set(), "property": set(), "staticmethod": set()}
        setters = set()
        generators = []
        functions = []
        for _, owner in self.each_node():
            if isinstance(owner, ast.ClassDef):
                for node in owner.body:
                    if isinstance(node, ast.FunctionDef):
                        marks = [ast.unparse(mark) for mark in node.decorator_list]
                        if marks == [f"{node.name}.setter"]:
                            setters.add(node.name)
                        else:
                            named[marks[0] if marks else "plain"].add(node.name)
            if isinstance(owner, ast.FunctionDef):
                functions.append(owner.name)
                if any(isinstance(node, (ast.Yield, ast.YieldFrom)) for node in ast.walk(owner)):
                    generators.append(owner.name)
        self.assertLessEqual(setters, named["property"])
        self.assertFalse((attributes - setters) & (named["plain"] | named["property"] | named["staticmethod"]))
        self.assertFalse(named["plain"] & (named["property"] | named["staticmethod"]))
        self.assertFalse(named["property"] & named["staticmethod"])
        for name in generators:
            self.assertEqual(functions.count(name), 1, name)

    def test_builtins_and_methods(self):
        own = {node.name for tree in self.trees.values() for node in ast.walk(tree)
               if isinstance(node, (ast.FunctionDef, ast.ClassDef))}
        for where, node in self.each_node():
            if isinstance(node, ast.Name) and node.id in dir(builtins):
                self.assertIn(node.id, BUILTINS, where)
            if isinstance(node, ast.Call) and isinstance(node.func, ast.Attribute):
                self.assertIn(node.func.attr, METHODS | own | {"__init__"}, where)

    def test_sets_stand_where_they_may(self):
        for name, tree in self.trees.items():
            parents = {child: node for node in ast.walk(tree) for child in ast.iter_child_nodes(node)}
            for node in ast.walk(tree):
                self.assertNotIsInstance(node, (ast.Set, ast.SetComp), name)
                if isinstance(node, ast.Call) and isinstance(node.func, ast.Name) and node.func.id == "set":
                    above = parents[node]
                    is_call = isinstance(above, ast.Call) and above.func.id in ("sorted", "len") and not above.keywords
                    self.assertTrue(is_call or isinstance(above, ast.Compare), f"{name}:{node.lineno}")

    def test_caught_errors_are_own_errors(self):
        own = {node.name for node in self.trees["errors"].body if isinstance(node, ast.ClassDef)}
        for where, node in self.each_node():
            if isinstance(node, ast.ExceptHandler):
                self.assertIn(node.type.id, own, where)
            if isinstance(node, ast.Raise):
                self.assertIn(node.exc.func.id, own, where)

    def test_sums_and_searches_take_lists(self):
        for where, node in self.each_node():
            if isinstance(node, ast.Call) and isinstance(node.func, ast.Name):
                if node.func.id in ("any", "all", "sum"):
                    self.assertIsInstance(node.args[0], (ast.ListComp, ast.Name), where)

    def test_operators_change_nothing_they_were_given(self):
        for name in ("jumps", "cards", "machine", "sums", "weights", "desk"):
            for node in ast.walk(self.trees[name]):
                is_operator = isinstance(node, ast.FunctionDef) and node.name.startswith("__") and node.name != "__init__"
                if is_operator:
                    for inner in ast.walk(node):
                        self.assertNotIsInstance(inner, (ast.AugAssign, ast.Delete, ast.For, ast.While), node.name)
                        if isinstance(inner, ast.Attribute):
                            self.assertIsInstance(inner.ctx, ast.Load, node.name)
                    if node.name in CALM:
                        self.assertIsInstance(node.body[-1], ast.Return)

    def test_every_module_class_and_function_has_a_docstring(self):
        for name, tree in self.trees.items():
            self.assertIsNotNone(ast.get_docstring(tree), name)
            for node in ast.walk(tree):
                if isinstance(node, (ast.FunctionDef, ast.ClassDef)) and not node.name.startswith("__"):
                    self.assertIsNotNone(ast.get_docstring(node), f"{name} {node.name}")
