"""Those rules of the language for the program that a look at its text can check."""

import ast
import builtins
import pathlib
import unittest

PACKAGE = pathlib.Path(__file__).resolve().parent.parent / "nodeadnight"
FILES = sorted(path for path in PACKAGE.iterdir() if path.name != "__pycache__")

BUILTINS = set("""len range enumerate zip min max sum abs sorted reversed int str bool bytes list tuple dict set
frozenset isinstance ord repr any all divmod pow getattr hasattr setattr iter next map type super
property staticmethod classmethod
Exception ValueError TypeError KeyError IndexError LookupError ZeroDivisionError ArithmeticError OverflowError
RuntimeError NotImplementedError AttributeError StopIteration NotImplemented""".split())

# Without heapq, since classes have an order of their own, and without product and its kin, since an object with a
# length is iterated over.
LIBRARY = {
    "math": {"gcd", "lcm", "isqrt", "comb", "perm", "factorial"},
    "itertools": {"chain", "accumulate", "pairwise", "islice", "zip_longest"},
    "collections": {"defaultdict", "deque"},
}

BARRED = (
    ast.AsyncFunctionDef, ast.Import, ast.TryStar, ast.Await, ast.AsyncFor, ast.AsyncWith, ast.Div, ast.MatMult,
)

# Functions that take a list, no generator expression, in a package with a class that has __eq__.
TAKES_A_LIST = {"any", "all", "min", "max", "sum", "sorted"}


def nodes(kind):
    """All nodes of a kind, each with the name of its file."""
    for path in FILES:
        for node in ast.walk(ast.parse(path.read_text())):
            if isinstance(node, kind):
                yield path.name, node


# Methods that change what they are called on.
CHANGING = {"append", "clear", "extend", "insert", "pop", "remove", "reverse", "setdefault", "update", "add", "discard",
            "sort"}


def path_of(node):
    """A variable with the attributes that are read off it, as a text; of an item what it is an item of; or None."""
    if isinstance(node, ast.Subscript):
        return path_of(node.value)
    if isinstance(node, ast.Attribute):
        whole = path_of(node.value)
        return whole and f"{whole}.{node.attr}"
    return node.id if isinstance(node, ast.Name) else None


def name_of(call):
    """The name of the function or the method that is called."""
    return call.func.attr if isinstance(call.func, ast.Attribute) else getattr(call.func, "id", None)


def walks_in(node, walks):
    """What the calls of generators in a node are passed, the object of a method with it."""
    for call in ast.walk(node):
        if isinstance(call, ast.Call) and name_of(call) in walks:
            passed = call.args + [word.value for word in call.keywords]
            yield from passed + ([call.func.value] if isinstance(call.func, ast.Attribute) else [])


def walked_by(node, walks):
    """What a loop with this head goes over, what the generators in it are passed among it."""
    found = list(walks_in(node, walks))
    if isinstance(node, ast.Call):
        if name_of(node) in ("enumerate", "zip", "reversed"):
            found += [part for value in node.args for part in walked_by(value, walks)]
        if name_of(node) in ("items", "keys", "values"):
            found.append(node.func.value)
    elif isinstance(node, (ast.IfExp, ast.BoolOp)):
        parts = [node.body, node.orelse] if isinstance(node, ast.IfExp) else node.values
        found += [part for value in parts for part in walked_by(value, walks)]
    else:
        found.append(node)
    return found


def told_by(value, walks):
    """What a variable that is told by a value may be a part of.

    A list(..) is looked through, however deep: only in the head of the loop itself it shows that a copy is gone over.
    """
    if isinstance(value, ast.Call) and name_of(value) in ("list", "tuple", "sorted") and value.args:
        return list(walks_in(value, walks)) + told_by(value.args[0], walks)
    return walked_by(value, walks)


def held_by(function, walks):
    """For each local variable the paths of which it may be a part, by an assignment or a loop."""
    found = {}
    for node in ast.walk(function):
        if isinstance(node, ast.Assign):
            pairs = [(node.targets[0], node.value)]
            if isinstance(node.targets[0], ast.Tuple) and isinstance(node.value, ast.Tuple):
                pairs = list(zip(node.targets[0].elts, node.value.elts))
        elif isinstance(node, ast.For):
            pairs = [(node.target, node.iter)]
        else:
            continue
        for target, value in pairs:
            for name in [part.id for part in ast.walk(target) if isinstance(part, ast.Name)]:
                found.setdefault(name, []).extend(path_of(part) for part in told_by(value, walks))
    return found


def kept_paths(heads, held):
    """The paths of heads, and those of all that they are parts of."""
    found, waiting = set(), [path_of(head) for head in heads]
    while waiting:
        path = waiting.pop()
        if path is not None and path not in found:
            found.add(path)
            waiting.extend(held.get(path.split(".")[0], []))
    return found


def changes_in(loop):
    """The nodes in a loop that change something, each with the path of what is changed."""
    for node in [part for statement in loop.body for part in ast.walk(statement)]:
        if isinstance(node, ast.Call) and isinstance(node.func, ast.Attribute) and node.func.attr in CHANGING:
            yield node, path_of(node.func.value)
        elif isinstance(node, (ast.Subscript, ast.Attribute)) and not isinstance(node.ctx, ast.Load):
            yield node, path_of(node)


def changed_while_walked(tree, walks):
    """The nodes by which a loop changes what it goes over, what a generator was passed, or what these are parts of."""
    for function in [node for node in ast.walk(tree) if isinstance(node, ast.FunctionDef)]:
        held = held_by(function, walks)
        for loop in [node for node in ast.walk(function) if isinstance(node, ast.For)]:
            kept = kept_paths(walked_by(loop.iter, walks), held)
            for node, path in changes_in(loop):
                if path is not None and any(path == each or path.startswith(each + ".") for each in kept):
                    yield node


def kind_of(method):
    """Whether a method is a plain one, a property or another one."""
    marks = [ast.unparse(mark) for mark in method.decorator_list]
    return "plain" if not marks else "property" if marks[0] == "property" or "setter" in marks[0] else "static"


def is_plain_number(node):
    """Whether a value is plainly a number or a string, so that no order of a class can play a part."""
    if isinstance(node, ast.ListComp):
        return is_plain_number(node.elt)
    if isinstance(node, ast.Call):
        return ast.unparse(node.func) in ("int", "len", "str", "set")
    return isinstance(node, ast.Constant)


def generators():
    """The names of the generators of the package."""
    return {node.name for _, node in nodes(ast.FunctionDef)
            if any(isinstance(part, (ast.Yield, ast.YieldFrom)) for part in ast.walk(node))}


class LanguageTest(unittest.TestCase):
    def none_of(self, found):
        self.assertEqual([(name, getattr(node, "lineno", 0)) for name, node in found], [])

    def test_files(self):
        self.assertIn("__init__.py", [path.name for path in FILES])
        for path in FILES:
            with self.subTest(file=path.name):
                self.assertEqual(path.suffix, ".py")
                self.assertEqual(path.name, path.name.lower())

    def test_sizes_and_characters(self):
        for path in FILES:
            lines = path.read_text().split("\n")
            self.assertLess(len(lines), 400, path.name)
            for at, line in enumerate(lines):
                with self.subTest(file=path.name, line=at + 1):
                    self.assertLessEqual(len(line), 120)
                    self.assertTrue(all(" " <= sign <= "~" for sign in line))

    def test_functions_have_at_most_40_lines(self):
        self.none_of((name, node) for name, node in nodes(ast.FunctionDef) if node.end_lineno - node.lineno >= 40)

    def test_imports(self):
        for name, node in nodes(ast.ImportFrom):
            names = {alias.name for alias in node.names}
            with self.subTest(file=name, line=node.lineno):
                self.assertEqual(node.level, 0)
                self.assertTrue(all(alias.asname is None for alias in node.names))
                if not node.module.startswith("nodeadnight."):
                    self.assertLessEqual(names, LIBRARY.get(node.module, set()))

    def test_barred_statements_and_signs(self):
        self.none_of(nodes(BARRED))

    def test_values(self):
        for name, node in nodes(ast.Constant):
            with self.subTest(file=name, line=node.lineno):
                self.assertNotIsInstance(node.value, (float, complex))
                self.assertNotIn("%", node.value if isinstance(node.value, str) else "")

    def test_builtins(self):
        barred = set(dir(builtins)) - BUILTINS
        self.none_of((name, node) for name, node in nodes(ast.Name) if node.id in barred)
        bound = set(dir(builtins))
        self.none_of((name, node) for name, node in nodes(ast.Name)
                     if node.id in bound and not isinstance(node.ctx, ast.Load))
        self.none_of((name, node) for name, node in nodes(ast.arg) if node.arg in bound)

    def test_decorators(self):
        for name, node in nodes((ast.FunctionDef, ast.ClassDef)):
            told = [ast.unparse(mark) for mark in node.decorator_list]
            with self.subTest(file=name, line=node.lineno):
                self.assertLessEqual(len(told), 1)
                for mark in told:
                    self.assertIn(mark, ["property", "staticmethod", "classmethod", f"{node.name}.setter"])

    def test_lists_instead_of_generator_expressions(self):
        calls = nodes(ast.Call)
        self.none_of((name, node) for name, node in calls
                     if isinstance(node.func, ast.Name) and node.func.id in TAKES_A_LIST
                     and any(isinstance(argument, ast.GeneratorExp) for argument in node.args))

    def test_is_with_constants_alone(self):
        for name, node in nodes(ast.Compare):
            if any(isinstance(sign, (ast.Is, ast.IsNot)) for sign in node.ops):
                self.assertIn(ast.unparse(node.comparators[-1]), ["None", "True", "False", "self"], (name, node.lineno))

    def test_no_sums_in_place(self):
        # A class has an __iadd__.
        self.none_of(nodes(ast.AugAssign))

    def test_orders_of_plain_numbers_alone(self):
        for name, node in nodes(ast.Call):
            if ast.unparse(node.func) in ("sorted", "min", "max"):
                keys = [ast.unparse(word.value) for word in node.keywords if word.arg == "key"]
                plain = keys in (["int"], ["len"], ["str"]) or any(is_plain_number(value) for value in node.args)
                self.assertTrue(plain, (name, node.lineno))

    def test_no_name_of_an_import_or_a_class(self):
        for path in FILES:
            tree = ast.parse(path.read_text())
            bound = {alias.name for node in tree.body if isinstance(node, ast.ImportFrom) for alias in node.names}
            bound |= {node.name for node in tree.body if isinstance(node, (ast.ClassDef, ast.FunctionDef))}
            used = {node.arg for node in ast.walk(tree) if isinstance(node, ast.arg)}
            used |= {node.id for node in ast.walk(tree)
                     if isinstance(node, ast.Name) and isinstance(node.ctx, ast.Store)}
            self.assertEqual(bound & used, set(), path.name)

    def test_names_of_methods_and_attributes(self):
        names = {"plain": set(), "property": set(), "static": set(), "attribute": set()}
        for _, kind in nodes(ast.ClassDef):
            for method in kind.body:
                if isinstance(method, ast.FunctionDef):
                    names[kind_of(method)].add(method.name)
        for _, node in nodes(ast.Attribute):
            if isinstance(node.ctx, ast.Store):
                names["attribute"].add(node.attr)
        # A property of one class may be an attribute of another one: the document has such.
        for kind, other in [("plain", "property"), ("plain", "static"), ("plain", "attribute"), ("static", "property"),
                            ("static", "attribute")]:
            self.assertEqual(names[kind] & names[other], set(), (kind, other))

    def test_names_of_generators(self):
        functions = [node.name for _, node in nodes(ast.FunctionDef)]
        for walk in generators():
            self.assertEqual(functions.count(walk), 1, walk)

    def test_no_loop_changes_what_it_goes_over(self):
        for path in FILES:
            found = changed_while_walked(ast.parse(path.read_text()), generators())
            self.none_of((path.name, node) for node in found)

    def test_the_check_of_loops(self):
        """The check itself: what it is to find, and what is to pass."""
        for head, change, wrong in [
            ("rows", "rows.append(k)", True), ("rows", "rows[k] = 1", True), ("rows[0]", "rows.pop()", True),
            ("self.rows", "self.rows.append(k)", True), ("self.rows", "self.seen.append(k)", False),
            ("enumerate(rows)", "rows.clear()", True), ("rows.items()", "del rows[k]", True),
            ("rows if rows else seen", "seen.append(k)", True), ("list(rows)", "rows.append(k)", False),
            ("steps(rows)", "rows.append(k)", True), ("steps(a=rows)", "rows.append(k)", True),
            ("list(steps(rows))", "rows.append(k)", True), ("rows.steps()", "rows.seen = k", True),
            ("steps(one)", "rows.append(k)", True), ("steps(one)", "seen.append(k)", False),
            ("steps(one)", "one.append(k)", True), ("every", "rows.append(k)", True),
            ("every", "seen.append(k)", False),
            ("every[0]", "one.append(k)", True), ("list(every)", "rows.append(k)", False),
            ("copied", "rows.append(k)", True), ("copied", "copied.append(k)", True), ("copied", "every.pop()", False),
        ]:
            text = f"""def f(self, rows, seen):
                one, copied = rows[0], list(rows)
                every = list(steps(one))
                for k in {head}:
                    {change}"""
            found = list(changed_while_walked(ast.parse(text), {"steps"}))
            self.assertEqual(len(found), int(wrong), (head, change))

    def test_texts(self):
        for name, node in nodes(ast.FunctionDef):
            if node.name == "__str__":
                for part in ast.walk(node):
                    if isinstance(part, ast.Return):
                        self.assertIsInstance(part.value, (ast.JoinedStr, ast.Constant, ast.Call), (name, part.lineno))

    def test_no_kept_ranges_in_signs(self):
        for name, node in nodes(ast.FunctionDef):
            if node.name.startswith("__") and node.name != "__init__":
                self.none_of((name, part) for part in ast.walk(node) if isinstance(part, ast.Assign)
                             and isinstance(part.value, ast.Call)
                             and ast.unparse(part.value.func) in ("range", "zip", "enumerate", "reversed"))

    def test_no_files_that_import_from_each_other(self):
        told = {path.stem: {node.module.split(".")[1] for node in ast.parse(path.read_text()).body
                            if isinstance(node, ast.ImportFrom) and node.module.startswith("nodeadnight.")}
                for path in FILES}
        # Again and again the files are left out that import from none of those that are left.
        while any(not others for others in told.values()):
            done = {name for name, others in told.items() if not others}
            told = {name: others - done for name, others in told.items() if name not in done}
        self.assertEqual(told, {})

    def test_each_attribute_is_assigned_or_defined(self):
        named = {node.name for _, node in nodes(ast.FunctionDef)}
        named |= {node.attr for _, node in nodes(ast.Attribute) if isinstance(node.ctx, ast.Store)}
        named |= {target.id for _, kind in nodes(ast.ClassDef) for node in kind.body if isinstance(node, ast.Assign)
                  for target in node.targets}
        read = {node.attr for _, node in nodes(ast.Attribute) if isinstance(node.ctx, ast.Load)}
        plain = set(dir(str)) | set(dir(list)) | set(dir(dict)) | set(dir(int)) | {"setter"}
        self.assertEqual(read - named - plain, set())

    def test_each_import_is_used(self):
        for path in FILES:
            tree = ast.parse(path.read_text())
            bound = {alias.name for node in tree.body if isinstance(node, ast.ImportFrom) for alias in node.names}
            used = {node.id for node in ast.walk(tree) if isinstance(node, ast.Name)}
            self.assertEqual(bound - used, set(), path.name)


if __name__ == "__main__":
    unittest.main()
