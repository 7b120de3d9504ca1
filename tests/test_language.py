"""Those rules of the language for the program that a look at its text can check."""

import ast
import builtins
import pathlib
import unittest

PACKAGE = pathlib.Path(__file__).resolve().parent.parent / "nodeadnight"
FILES = sorted(path for path in PACKAGE.iterdir() if path.name != "__pycache__")

BUILTINS = set("""len range enumerate zip min max sum abs sorted reversed int str bool bytes list tuple dict set
frozenset isinstance ord repr any all divmod pow getattr hasattr setattr iter next map type super
property staticmethod classmethod
Exception ValueError TypeError KeyError IndexError LookupError ZeroDivisionError ArithmeticError OverflowError
RuntimeError NotImplementedError AttributeError StopIteration NotImplemented""".split())

LIBRARY = {
    "math": {"gcd", "lcm", "isqrt", "comb", "perm", "factorial"},
    "heapq": {"heappush", "heappop", "heapify", "heapreplace", "heappushpop"},
    "itertools": {
        "product", "combinations", "permutations", "chain", "accumulate", "pairwise", "islice", "zip_longest",
    },
    "collections": {"defaultdict", "deque"},
}

BARRED = (
    ast.AsyncFunctionDef, ast.Import, ast.TryStar, ast.Await, ast.AsyncFor, ast.AsyncWith, ast.Div, ast.MatMult,
)

# Functions that take a list, no generator expression, in a package with a class that has __eq__.
TAKES_A_LIST = {"any", "all", "min", "max", "sum", "sorted"}


def nodes(kind):
    """All nodes of a kind, each with the name of its file."""
    for path in FILES:
        for node in ast.walk(ast.parse(path.read_text())):
            if isinstance(node, kind):
                yield path.name, node


class LanguageTest(unittest.TestCase):
    def none_of(self, found):
        self.assertEqual([(name, getattr(node, "lineno", 0)) for name, node in found], [])

    def test_files(self):
        self.assertIn("__init__.py", [path.name for path in FILES])
        for path in FILES:
            with self.subTest(file=path.name):
                self.assertEqual(path.suffix, ".py")
                self.assertEqual(path.name, path.name.lower())

    def test_sizes_and_characters(self):
        for path in FILES:
            lines = path.read_text().split("\n")
            self.assertLess(len(lines), 400, path.name)
            for at, line in enumerate(lines):
                with self.subTest(file=path.name, line=at + 1):
                    self.assertLessEqual(len(line), 120)
                    self.assertTrue(all(" " <= sign <= "~" for sign in line))

    def test_functions_have_at_most_40_lines(self):
        self.none_of((name, node) for name, node in nodes(ast.FunctionDef) if node.end_lineno - node.lineno >= 40)

    def test_imports(self):
        for name, node in nodes(ast.ImportFrom):
            names = {alias.name for alias in node.names}
            with self.subTest(file=name, line=node.lineno):
                self.assertEqual(node.level, 0)
                self.assertTrue(all(alias.asname is None for alias in node.names))
                if not node.module.startswith("nodeadnight."):
                    self.assertLessEqual(names, LIBRARY.get(node.module, set()))

    def test_barred_statements_and_signs(self):
        self.none_of(nodes(BARRED))

    def test_values(self):
        for name, node in nodes(ast.Constant):
            with self.subTest(file=name, line=node.lineno):
                self.assertNotIsInstance(node.value, (float, complex))
                self.assertNotIn("%", node.value if isinstance(node.value, str) else "")

    def test_builtins(self):
        barred = set(dir(builtins)) - BUILTINS
        self.none_of((name, node) for name, node in nodes(ast.Name) if node.id in barred)
        bound = set(dir(builtins))
        self.none_of((name, node) for name, node in nodes(ast.Name)
                     if node.id in bound and not isinstance(node.ctx, ast.Load))
        self.none_of((name, node) for name, node in nodes(ast.arg) if node.arg in bound)

    def test_decorators(self):
        for name, node in nodes((ast.FunctionDef, ast.ClassDef)):
            told = [ast.unparse(mark) for mark in node.decorator_list]
            with self.subTest(file=name, line=node.lineno):
                self.assertLessEqual(len(told), 1)
                for mark in told:
                    self.assertIn(mark, ["property", "staticmethod", "classmethod", f"{node.name}.setter"])

    def test_lists_instead_of_generator_expressions(self):
        calls = nodes(ast.Call)
        self.none_of((name, node) for name, node in calls
                     if isinstance(node.func, ast.Name) and node.func.id in TAKES_A_LIST
                     and any(isinstance(argument, ast.GeneratorExp) for argument in node.args))

    def test_is_with_constants_alone(self):
        for name, node in nodes(ast.Compare):
            if any(isinstance(sign, (ast.Is, ast.IsNot)) for sign in node.ops):
                self.assertIn(ast.unparse(node.comparators[-1]), ["None", "True", "False", "self"], (name, node.lineno))


if __name__ == "__main__":
    unittest.main()
