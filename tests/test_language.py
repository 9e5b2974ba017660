"""What can be told of LANGUAGE.md from the syntax trees of the package's files."""

import ast
import builtins
import pathlib
import re
import unittest

PACKAGE = pathlib.Path(__file__).resolve().parent.parent / "rangekeep"
FILES = sorted(path for path in PACKAGE.rglob("*") if "__pycache__" not in path.parts and path.is_file())
TREES = {path.stem: ast.parse(path.read_text()) for path in FILES if path.suffix == ".py"}

BUILTINS = set("""len range enumerate zip min max sum abs sorted reversed int str bool list tuple dict set isinstance
    ord repr any all divmod pow iter next map type super property staticmethod classmethod Exception ValueError
    TypeError KeyError IndexError LookupError ZeroDivisionError ArithmeticError OverflowError RuntimeError
    NotImplementedError StopIteration NotImplemented""".split())
METHODS = set("""append clear copy count endswith extend find get index insert isalnum isalpha isdigit islower isspace
    isupper items join keys ljust lower lstrip partition pop remove replace reverse rfind rjust rpartition rsplit
    rstrip setdefault split splitlines startswith strip update upper values zfill bit_length removeprefix add
    discard""".split())
WORDS = set("""register mro elements open input law version_info with_traceback add_note compile copyright credits
    delattr dir eval exec exit gc globals help id importlib license locals os quit vars sys typing enum Enum Flag
    Generic Protocol ABC namedtuple dataclass overload""".split())
LIBRARY = {
    "heapq": {"heappush", "heappop", "heapify", "heapreplace", "heappushpop"},
    "math": {"gcd", "lcm", "isqrt", "comb", "perm", "factorial"},
    "itertools": {"product", "combinations", "permutations", "chain", "accumulate", "pairwise", "islice",
                  "zip_longest"},
    "collections": {"defaultdict", "deque"},
}
STATEMENTS = (ast.FunctionDef, ast.ClassDef, ast.Assign, ast.AugAssign, ast.If, ast.While, ast.For, ast.Return,
              ast.Break, ast.Continue, ast.Pass, ast.Raise, ast.Assert, ast.Delete, ast.Try, ast.Expr, ast.ImportFrom)
# The interpreter keeps what it printed last as the builtin _.
ALL_BUILTINS = set(dir(builtins)) - {"_"}
DUNDERS = {"__init__", "__eq__", "__repr__", "__str__", "__len__"}


def names_of(tree):
    """All names that a file binds or uses, with those of parameters and attributes."""
    for node in ast.walk(tree):
        if isinstance(node, ast.Name):
            yield node.id
        elif isinstance(node, ast.arg):
            yield node.arg
        elif isinstance(node, ast.Attribute):
            yield node.attr
        elif isinstance(node, (ast.FunctionDef, ast.ClassDef)):
            yield node.name


def bound_in_functions(tree):
    for node in ast.walk(tree):
        if isinstance(node, ast.arg):
            yield node.arg
        elif isinstance(node, ast.Name) and isinstance(node.ctx, ast.Store):
            yield node.id


def defined(tree):
    """The names that a file defines at module level, without its imports."""
    told = []
    for node in tree.body:
        if isinstance(node, (ast.FunctionDef, ast.ClassDef)):
            told.append(node.name)
        elif isinstance(node, ast.Assign):
            told.extend(target.id for target in node.targets)
    return told


def imports(tree):
    return [node for node in ast.walk(tree) if isinstance(node, (ast.Import, ast.ImportFrom))]


class LanguageTest(unittest.TestCase):
    def each(self, kinds):
        """All nodes of some kinds, each with the file and the line where it stands."""
        return [(f"{name}.py, line {getattr(node, 'lineno', '?')}", node)
                for name, tree in TREES.items() for node in ast.walk(tree) if isinstance(node, kinds)]

    def test_files(self):
        for path in FILES:
            text = path.read_text()
            with self.subTest(path.name):
                self.assertRegex(path.name, "^[a-z_][a-z0-9_]*[.]py$")
                self.assertRegex(text, "^[ -~\n]*$")
                self.assertLessEqual(len(text.splitlines()), 399)
                self.assertLessEqual(max([len(line) for line in text.splitlines()]), 120)

    def test_functions_are_short(self):
        for where, node in self.each(ast.FunctionDef):
            self.assertLessEqual(node.end_lineno - node.lineno + 1, 40, where)

    def test_module_level(self):
        for name, tree in TREES.items():
            with self.subTest(name):
                for node in tree.body:
                    self.assertIsInstance(node, (ast.Expr, ast.ImportFrom, ast.FunctionDef, ast.ClassDef, ast.Assign))
                    if isinstance(node, ast.Expr):
                        self.assertIsInstance(node.value, ast.Constant)
                bound = defined(tree) + [alias.name for node in imports(tree) for alias in node.names]
                self.assertEqual(len(bound), len(set(bound)))

    def test_imports(self):
        for where, node in self.each((ast.Import, ast.ImportFrom)):
            self.assertIsInstance(node, ast.ImportFrom, where)
            package, _, module = node.module.partition(".")
            told = LIBRARY.get(node.module) or (package == "rangekeep" and defined(TREES[module]))
            for alias in node.names:
                self.assertIn(alias.name, told, where)
                self.assertIsNone(alias.asname, where)

    def test_imports_have_no_circle(self):
        done = set()

        def go(module, above):
            self.assertNotIn(module, above)
            if module not in done:
                for node in imports(TREES[module]):
                    if node.module.startswith("rangekeep."):
                        go(node.module.partition(".")[2], above + [module])
                done.add(module)

        for name in TREES:
            go(name, [])

    def test_statements(self):
        for where, node in self.each(ast.stmt):
            self.assertIsInstance(node, STATEMENTS, where)

    def test_expressions(self):
        barred = (ast.GeneratorExp, ast.Set, ast.SetComp, ast.Div, ast.MatMult, ast.Await, ast.Yield)
        for where, node in self.each((ast.expr, ast.operator)):
            self.assertNotIsInstance(node, barred, where)
            if isinstance(node, ast.Constant):
                self.assertIsInstance(node.value, (int, str, type(None)), where)
                self.assertNotIn("%", str(node.value), where)

    def test_format_strings(self):
        for where, node in self.each(ast.FormattedValue):
            self.assertEqual((node.conversion, node.format_spec), (-1, None), where)
            for part in ast.walk(node.value):
                self.assertNotIsInstance(part, ast.JoinedStr, where)
                self.assertFalse(isinstance(part, ast.Constant) and isinstance(part.value, str), where)

    def test_exponents(self):
        for where, node in self.each(ast.BinOp):
            if isinstance(node.op, ast.Pow):
                self.assertIsInstance(node.right, ast.Constant, where)
                self.assertIn(node.right.value, range(65), where)

    def test_builtins(self):
        for name, tree in TREES.items():
            used = set(names_of(tree)) & ALL_BUILTINS
            attributes = {node.attr for node in ast.walk(tree) if isinstance(node, ast.Attribute)}
            with self.subTest(name):
                self.assertLessEqual(used - attributes, BUILTINS)
                self.assertFalse(set(bound_in_functions(tree)) & ALL_BUILTINS)
                self.assertFalse(set(defined(tree)) & ALL_BUILTINS)

    def test_names(self):
        for name, tree in TREES.items():
            with self.subTest(name):
                for word in names_of(tree):
                    self.assertNotIn(word, WORDS)
                    self.assertTrue(re.match("_?[A-Za-z]|_$", word) or word in DUNDERS, word)
                classes = [node.name for node in tree.body if isinstance(node, ast.ClassDef)]
                taken = classes + [alias.name for node in imports(tree) for alias in node.names]
                self.assertFalse(set(bound_in_functions(tree)) & set(taken))

    def test_methods(self):
        own = {node.name for tree in TREES.values() for node in ast.walk(tree) if isinstance(node, ast.FunctionDef)}
        for where, node in self.each(ast.Call):
            if isinstance(node.func, ast.Attribute):
                self.assertIn(node.func.attr, METHODS | own, where)

    def test_handlers_name_own_errors(self):
        for where, node in self.each(ast.ExceptHandler):
            self.assertIn(node.type.id, defined(TREES["errors"]), where)


if __name__ == "__main__":
    unittest.main()
