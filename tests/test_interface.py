"""The interface: what is defined in which file, and the names of its arguments."""

import ast
import inspect
import pathlib
import unittest

from ringhall import accounts, book, hall, meet, opening, orders, plain, tape

FOLDER = pathlib.Path(__file__).resolve().parent.parent / "ringhall"

DEFINED = {
    "errors.py": [
        "HallError", "BadThing", "BadOrder", "NoThing", "NoOrder", "Shut", "BadPhase", "OverReach",
        "NoDeed", "Refused", "NoPicture", "NoText", "NoView", "NoRow",
    ],
    "orders.py": ["listed", "Order", "ranked", "lets"],
    "plain.py": ["plain_meet"],
    "book.py": ["Book"],
    "meet.py": ["meet", "would"],
    "opening.py": ["table", "price_of", "opening", "worth", "paired_off"],
    "accounts.py": ["Accounts", "over"],
    "hall.py": ["Hall"],
    "tape.py": ["judged"],
}

METHODS = {
    ("orders.py", "Order"): ["__init__", "__eq__", "__str__"],
    ("book.py", "Book"): [
        "put", "take", "row", "best", "level", "rows", "sight", "__len__", "__eq__",
    ],
    ("accounts.py", "Accounts"): ["trade", "cash", "holding", "rows"],
    ("hall.py", "Hall"): [
        "__init__", "tell", "cancel", "sweep", "change", "phase", "several", "foretold", "standing", "waiting",
        "phase_of", "last", "anchor", "cash", "holding", "sight", "cost", "picture", "__len__", "__eq__",
    ],
}

ASSIGNED = {
    "words.py": [
        "BUY", "SELL", "RANK", "SHARE", "REST", "NOW", "WHOLE", "ONLY", "OLD", "NEW", "BOTH", "LESS",
        "OPEN", "CALL", "SHUT", "REACH",
    ],
}

ARGUMENTS = {
    orders.listed: "(name, start, *, band=None, rule='rank')",
    orders.Order: "(owner, thing, side, amount, *, price=None, shown=None, stop=None, life='rest', guard='old')",
    orders.ranked: "(rows)",
    orders.lets: "(price, side, other)",
    plain.plain_meet: "(rows, coming, *, rank, band=None, anchor=None, rule='rank')",
    book.Book: "()",
    book.Book.put: "(self, row)",
    book.Book.take: "(self, number)",
    book.Book.row: "(self, number)",
    book.Book.best: "(self, side)",
    book.Book.level: "(self, side, price)",
    book.Book.rows: "(self)",
    book.Book.sight: "(self)",
    meet.meet: "(book, coming, *, rank, band=None, anchor=None, rule='rank')",
    meet.would: "(book, coming, *, band=None, anchor=None, rule='rank')",
    opening.table: "(rows)",
    opening.price_of: "(steps, last)",
    opening.opening: "(rows, last, *, rank)",
    opening.worth: "(rows, price)",
    opening.paired_off: "(rows)",
    accounts.Accounts: "()",
    accounts.Accounts.trade: "(self, thing, buyer, seller, price, amount)",
    accounts.Accounts.cash: "(self, owner)",
    accounts.Accounts.holding: "(self, owner, thing)",
    accounts.Accounts.rows: "(self)",
    accounts.over: "(holding, buys, sells, reach)",
    hall.Hall: "(things, *, reach=1000000000000)",
    hall.Hall.tell: "(self, order)",
    hall.Hall.cancel: "(self, number)",
    hall.Hall.sweep: "(self, owner)",
    hall.Hall.change: "(self, number, *, price=None, amount=None)",
    hall.Hall.phase: "(self, thing, word)",
    hall.Hall.several: "(self, deeds)",
    hall.Hall.foretold: "(self, order)",
    hall.Hall.standing: "(self, thing)",
    hall.Hall.waiting: "(self, thing)",
    hall.Hall.phase_of: "(self, thing)",
    hall.Hall.last: "(self, thing)",
    hall.Hall.anchor: "(self, thing)",
    hall.Hall.cash: "(self, owner)",
    hall.Hall.holding: "(self, owner, thing)",
    hall.Hall.sight: "(self, thing)",
    hall.Hall.cost: "(self, thing, side, amount)",
    hall.Hall.picture: "(self)",
    tape.judged: "(things, deeds, tape, *, reach=1000000000000)",
}


def parts_of(name):
    """What a file of the package holds at module level."""
    return ast.parse((FOLDER / name).read_text()).body


class Interface(unittest.TestCase):
    def test_defined_in_their_files(self):
        for file, names in DEFINED.items():
            defined = [part.name for part in parts_of(file) if isinstance(part, (ast.ClassDef, ast.FunctionDef))]
            for name in names:
                with self.subTest(file=file, name=name):
                    self.assertIn(name, defined)

    def test_methods_stand_in_their_class(self):
        for (file, name), methods in METHODS.items():
            body = [part.body for part in parts_of(file) if isinstance(part, ast.ClassDef) and part.name == name][0]
            defined = [part.name for part in body if isinstance(part, ast.FunctionDef)]
            for method in methods:
                with self.subTest(name=name, method=method):
                    self.assertIn(method, defined)

    def test_words_stand_in_their_file(self):
        for file, names in ASSIGNED.items():
            assigned = [part.targets[0].id for part in parts_of(file) if isinstance(part, ast.Assign)]
            self.assertEqual(sorted(assigned), sorted(names))

    def test_arguments(self):
        for named, told in ARGUMENTS.items():
            with self.subTest(name=named.__qualname__):
                self.assertEqual(str(inspect.signature(named)), told)


if __name__ == "__main__":
    unittest.main()
