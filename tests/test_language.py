"""The rules of the language that a look at the package's files can tell."""

import ast
import builtins
import pathlib
import re
import unittest

FOLDER = pathlib.Path(__file__).resolve().parent.parent / "ringhall"
FILES = sorted(path for path in FOLDER.rglob("*") if "__pycache__" not in path.parts)

LIBRARY = {
    "heapq": {"heappush", "heappop", "heapify", "heapreplace", "heappushpop"},
    "math": {"gcd", "lcm", "isqrt", "comb", "perm", "factorial"},
    "itertools": {
        "product", "combinations", "permutations", "chain", "accumulate", "pairwise", "islice", "zip_longest",
    },
    "collections": {"defaultdict", "deque"},
}

BUILTINS = set(
    "len range enumerate zip min max sum abs sorted reversed int str bool list tuple dict set isinstance ord repr "
    "any all divmod pow getattr hasattr setattr iter next map super property staticmethod classmethod type object "
    "Exception ValueError TypeError KeyError IndexError LookupError ZeroDivisionError ArithmeticError "
    "OverflowError RuntimeError NotImplementedError AttributeError StopIteration NotImplemented".split()
)

BUILT = set(vars(builtins))

METHODS = set(
    "__init__ __eq__ __repr__ __str__ __len__ __enter__ __exit__ __call__ __iter__ __lt__ __le__ __gt__ __ge__ "
    "__ne__ __contains__ __getitem__ __setitem__ __bool__ __add__ __sub__".split()
)

WORDS = set(
    "mro elements open input law version_info with_traceback add_note register breakpoint compile "
    "eval exec exit globals locals vars dir delattr gc importlib builtins".split()
)

MODULE_LEVEL = (ast.Import, ast.ImportFrom, ast.FunctionDef, ast.ClassDef, ast.Assign)

STATEMENTS = (
    ast.Global, ast.AsyncFunctionDef, ast.AsyncFor, ast.AsyncWith, ast.Await, ast.Set, ast.Div, ast.TryStar,
)


def names_in(tree):
    """Every name that a file binds or reads, attributes too."""
    for node in ast.walk(tree):
        if isinstance(node, ast.Name):
            yield node.id
        elif isinstance(node, ast.Attribute):
            yield node.attr
        elif isinstance(node, (ast.arg, ast.keyword)):
            yield node.arg or "rest"
        elif isinstance(node, (ast.FunctionDef, ast.ClassDef)):
            yield node.name


def docstrings_in(tree):
    """The nodes of a file's docstrings."""
    for node in ast.walk(tree):
        if isinstance(node, (ast.Module, ast.ClassDef, ast.FunctionDef)):
            first = node.body[0] if node.body else None
            if isinstance(first, ast.Expr) and isinstance(first.value, ast.Constant):
                yield first.value


def trees():
    """Each file with what it holds."""
    return [(path, ast.parse(path.read_text())) for path in FILES]


class Language(unittest.TestCase):
    def test_files(self):
        self.assertIn(FOLDER / "__init__.py", FILES)
        self.assertLessEqual(len(FILES), 100)
        for path in FILES:
            self.assertTrue(path.is_file() and path.parent == FOLDER, path)
            self.assertRegex(path.name, r"\A[a-z_][a-z0-9_]*\.py\Z")

    def test_signs_and_sizes(self):
        for path, tree in trees():
            text = path.read_bytes().decode("ascii")
            self.assertIsNone(re.search(r"[^ -~\n]", text))
            self.assertLessEqual(text.count("\n"), 399)
            self.assertLessEqual(max(map(len, text.split("\n"))), 120)
            for node in ast.walk(tree):
                if isinstance(node, ast.FunctionDef):
                    self.assertLessEqual(node.end_lineno - node.lineno + 1, 40, node.name)

    def test_imports(self):
        for path, tree in trees():
            for node in ast.walk(tree):
                self.assertNotIsInstance(node, ast.Import)
                if isinstance(node, ast.ImportFrom):
                    self.assertIn(node, tree.body)
                    names = {part.name for part in node.names}
                    if node.module in LIBRARY:
                        self.assertLessEqual(names, LIBRARY[node.module])
                    else:
                        self.assertRegex(node.module, r"\Aringhall\.[a-z_]+\Z")
                        body = ast.parse((FOLDER / (node.module.split(".")[1] + ".py")).read_text()).body
                        bound = {part.name for part in body if isinstance(part, (ast.FunctionDef, ast.ClassDef))}
                        bound |= {part.targets[0].id for part in body if isinstance(part, ast.Assign)}
                        self.assertLessEqual(names, bound)

    def test_module_level(self):
        for path, tree in trees():
            for node in tree.body:
                plain = isinstance(node, MODULE_LEVEL) or isinstance(node, ast.Expr) and node is tree.body[0]
                self.assertTrue(plain, ast.dump(node))

    def test_statements_and_values(self):
        for path, tree in trees():
            told = set(docstrings_in(tree))
            for node in ast.walk(tree):
                self.assertNotIsInstance(node, STATEMENTS)
                if isinstance(node, ast.Constant):
                    self.assertNotIsInstance(node.value, (float, complex))
                    if isinstance(node.value, str) and node not in told:
                        self.assertNotIn("%", node.value)
                        self.assertIsNone(re.search(r"\A__.*__\Z", node.value))

    def test_names(self):
        for path, tree in trees():
            for name in names_in(tree):
                self.assertNotIn(name, WORDS)
                if name.startswith("__"):
                    self.assertIn(name, METHODS)

    def test_builtins(self):
        for path, tree in trees():
            for node in ast.walk(tree):
                if isinstance(node, ast.Name) and node.id in BUILT:
                    self.assertIn(node.id, BUILTINS)
                    self.assertIsInstance(node.ctx, ast.Load)
                if isinstance(node, (ast.FunctionDef, ast.ClassDef)):
                    self.assertNotIn(node.name, BUILT)
                if isinstance(node, ast.arg):
                    self.assertNotIn(node.arg, BUILT)

    def test_any_and_all_take_a_list(self):
        for path, tree in trees():
            for node in ast.walk(tree):
                if isinstance(node, ast.Call) and isinstance(node.func, ast.Name) and node.func.id in ("any", "all"):
                    self.assertNotIsInstance(node.args[0], ast.GeneratorExp)

    def test_tables_are_only_read(self):
        for path, tree in trees():
            tables = {
                part.targets[0].id for part in tree.body
                if isinstance(part, ast.Assign) and isinstance(part.value, (ast.Dict, ast.List))
            }
            allowed = set()
            for node in ast.walk(tree):
                if isinstance(node, ast.Subscript) and isinstance(node.ctx, ast.Load):
                    allowed.add(node.value)
                elif isinstance(node, ast.Attribute) and node.attr == "get":
                    allowed.add(node.value)
                elif isinstance(node, ast.Compare) and isinstance(node.ops[0], (ast.In, ast.NotIn)):
                    allowed.update(node.comparators)
                elif isinstance(node, ast.Assign):
                    allowed.update(node.targets)
            for node in ast.walk(tree):
                if isinstance(node, ast.Name) and node.id in tables:
                    self.assertIn(node, allowed, (path.name, node.lineno))

    def test_locals_have_no_name_of_an_import_or_class(self):
        for path, tree in trees():
            bound = {part.name for part in tree.body if isinstance(part, ast.ClassDef)}
            for part in tree.body:
                if isinstance(part, ast.ImportFrom):
                    bound |= {one.name for one in part.names}
            for node in ast.walk(tree):
                if isinstance(node, ast.Name) and isinstance(node.ctx, ast.Store):
                    self.assertNotIn(node.id, bound, (path.name, node.lineno))
                if isinstance(node, ast.arg):
                    self.assertNotIn(node.arg, bound, (path.name, node.lineno))

    def test_no_name_is_a_method_and_an_attribute(self):
        methods, attributes = set(), set()
        for path, tree in trees():
            for node in ast.walk(tree):
                if isinstance(node, ast.ClassDef):
                    methods |= {part.name for part in node.body if isinstance(part, ast.FunctionDef)}
                if isinstance(node, ast.Attribute) and isinstance(node.ctx, ast.Store):
                    attributes.add(node.attr)
        self.assertEqual(methods & attributes, set())
        named = set(dir(str) + dir(list) + dir(dict) + dir(set) + dir(int) + dir(bytes))
        self.assertEqual((methods | attributes) & named - METHODS, set())

    def test_no_generators_and_no_maps(self):
        for path, tree in trees():
            for node in ast.walk(tree):
                self.assertNotIsInstance(node, (ast.GeneratorExp, ast.Yield, ast.YieldFrom))
                if isinstance(node, ast.Call) and isinstance(node.func, ast.Name):
                    self.assertNotIn(node.func.id, ("map", "iter", "next"))

    def test_sets_are_measured_sorted_or_asked_on_the_spot(self):
        for path, tree in trees():
            allowed = set()
            for node in ast.walk(tree):
                if isinstance(node, ast.Call) and isinstance(node.func, ast.Name) and node.func.id in ("len", "sorted"):
                    parts = [node.args[0]]
                    while parts:
                        part = parts.pop()
                        allowed.add(part)
                        if isinstance(part, ast.BinOp):
                            parts += [part.left, part.right]
            for node in ast.walk(tree):
                called = isinstance(node, ast.Call) and isinstance(node.func, ast.Name) and node.func.id == "set"
                if called or isinstance(node, ast.SetComp):
                    self.assertIn(node, allowed, (path.name, node.lineno))

    def test_errors_are_raised_on_the_spot_and_own_ones_caught(self):
        for path, tree in trees():
            for node in ast.walk(tree):
                if isinstance(node, ast.Raise):
                    self.assertIsInstance(node.exc, ast.Call)
                if isinstance(node, ast.ExceptHandler):
                    self.assertIn(node.type.id, ("HallError", "BadOrder"))


if __name__ == "__main__":
    unittest.main()
