"""The interface: what is defined in which file, and the names of its arguments."""

import ast
import inspect
import pathlib
import unittest

from ringhall import orders

FOLDER = pathlib.Path(__file__).resolve().parent.parent / "ringhall"

DEFINED = {
    "errors.py": [
        "HallError", "BadThing", "BadOrder", "NoThing", "NoOrder", "Shut", "BadPhase", "OverReach",
        "NoDeed", "Refused", "NoPicture", "NoText", "NoView", "NoRow",
    ],
    "orders.py": ["listed", "Order", "ranked", "lets"],
}

METHODS = {("orders.py", "Order"): ["__init__", "__eq__", "__str__"]}

ASSIGNED = {
    "words.py": [
        "BUY", "SELL", "RANK", "SHARE", "REST", "NOW", "WHOLE", "ONLY", "OLD", "NEW", "BOTH", "LESS",
        "OPEN", "CALL", "SHUT", "REACH",
    ],
}

ARGUMENTS = {
    "listed": "(name, start, *, band=None, rule='rank')",
    "Order": "(owner, thing, side, amount, *, price=None, shown=None, stop=None, life='rest', guard='old')",
    "ranked": "(rows)",
    "lets": "(price, side, other)",
}


def parts_of(name):
    """What a file of the package holds at module level."""
    return ast.parse((FOLDER / name).read_text()).body


class Interface(unittest.TestCase):
    def test_defined_in_their_files(self):
        for file, names in DEFINED.items():
            defined = [part.name for part in parts_of(file) if isinstance(part, (ast.ClassDef, ast.FunctionDef))]
            for name in names:
                with self.subTest(file=file, name=name):
                    self.assertIn(name, defined)

    def test_methods_stand_in_their_class(self):
        for (file, name), methods in METHODS.items():
            body = [part.body for part in parts_of(file) if isinstance(part, ast.ClassDef) and part.name == name][0]
            defined = [part.name for part in body if isinstance(part, ast.FunctionDef)]
            for method in methods:
                with self.subTest(name=name, method=method):
                    self.assertIn(method, defined)

    def test_words_stand_in_their_file(self):
        for file, names in ASSIGNED.items():
            assigned = [part.targets[0].id for part in parts_of(file) if isinstance(part, ast.Assign)]
            self.assertEqual(sorted(assigned), sorted(names))

    def test_arguments(self):
        for name, told in ARGUMENTS.items():
            with self.subTest(name=name):
                self.assertEqual(str(inspect.signature(getattr(orders, name))), told)


if __name__ == "__main__":
    unittest.main()
