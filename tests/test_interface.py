"""The interface: what is defined in which file, and the names of its arguments."""

import ast
import inspect
import itertools
import pathlib
import unittest

from hallcase import buy, sell
from ringhall import (
    accounts, book, desk, errors, hall, meet, opening, orders, pictures, plain, seen, tape, texts, words,
)

FOLDER = pathlib.Path(__file__).resolve().parent.parent / "ringhall"

DEFINED = {
    "errors.py": [
        "HallError", "BadThing", "BadOrder", "NoThing", "NoOrder", "Shut", "BadPhase", "OverReach",
        "NoDeed", "Refused", "NoPicture", "NoText", "NoView", "NoRow",
    ],
    "orders.py": ["listed", "Order", "ranked", "lets"],
    "plain.py": ["plain_meet"],
    "book.py": ["Book"],
    "meet.py": ["meet", "would"],
    "opening.py": ["table", "price_of", "opening", "worth", "paired_off"],
    "accounts.py": ["Accounts", "over"],
    "hall.py": ["Hall"],
    "tape.py": ["judged"],
    "pictures.py": ["read_picture"],
    "texts.py": ["read_order", "event_text"],
    "desk.py": ["Desk"],
    "seen.py": ["public", "Onlooker"],
}

METHODS = {
    ("orders.py", "Order"): ["__init__", "__eq__", "__str__"],
    ("book.py", "Book"): [
        "put", "take", "row", "best", "level", "rows", "sight", "__len__", "__eq__",
    ],
    ("accounts.py", "Accounts"): ["trade", "cash", "holding", "rows"],
    ("hall.py", "Hall"): [
        "__init__", "tell", "cancel", "sweep", "change", "phase", "several", "foretold", "standing", "waiting",
        "phase_of", "last", "anchor", "cash", "holding", "sight", "cost", "picture", "__len__", "__eq__",
    ],
    ("desk.py", "Desk"): ["__init__", "say"],
    ("seen.py", "Onlooker"): ["__init__", "look", "sight", "deeds", "__len__"],
}

ASSIGNED = {
    "words.py": [
        "BUY", "SELL", "RANK", "SHARE", "REST", "NOW", "WHOLE", "ONLY", "OLD", "NEW", "BOTH", "LESS",
        "OPEN", "CALL", "SHUT", "REACH",
    ],
}

ARGUMENTS = {
    orders.listed: "(name, start, *, band=None, rule='rank')",
    orders.Order: "(owner, thing, side, amount, *, price=None, shown=None, stop=None, life='rest', guard='old')",
    orders.ranked: "(rows)",
    orders.lets: "(price, side, other)",
    plain.plain_meet: "(rows, coming, *, rank, band=None, anchor=None, rule='rank')",
    book.Book: "()",
    book.Book.put: "(self, row)",
    book.Book.take: "(self, number)",
    book.Book.row: "(self, number)",
    book.Book.best: "(self, side)",
    book.Book.level: "(self, side, price)",
    book.Book.rows: "(self)",
    book.Book.sight: "(self)",
    meet.meet: "(book, coming, *, rank, band=None, anchor=None, rule='rank')",
    meet.would: "(book, coming, *, band=None, anchor=None, rule='rank')",
    opening.table: "(rows)",
    opening.price_of: "(steps, last)",
    opening.opening: "(rows, last, *, rank)",
    opening.worth: "(rows, price)",
    opening.paired_off: "(rows)",
    accounts.Accounts: "()",
    accounts.Accounts.trade: "(self, thing, buyer, seller, price, amount)",
    accounts.Accounts.cash: "(self, owner)",
    accounts.Accounts.holding: "(self, owner, thing)",
    accounts.Accounts.rows: "(self)",
    accounts.over: "(holding, buys, sells, reach)",
    hall.Hall: "(things, *, reach=1000000000000)",
    hall.Hall.tell: "(self, order)",
    hall.Hall.cancel: "(self, number)",
    hall.Hall.sweep: "(self, owner)",
    hall.Hall.change: "(self, number, *, price=None, amount=None)",
    hall.Hall.phase: "(self, thing, word)",
    hall.Hall.several: "(self, deeds)",
    hall.Hall.foretold: "(self, order)",
    hall.Hall.standing: "(self, thing)",
    hall.Hall.waiting: "(self, thing)",
    hall.Hall.phase_of: "(self, thing)",
    hall.Hall.last: "(self, thing)",
    hall.Hall.anchor: "(self, thing)",
    hall.Hall.cash: "(self, owner)",
    hall.Hall.holding: "(self, owner, thing)",
    hall.Hall.sight: "(self, thing)",
    hall.Hall.cost: "(self, thing, side, amount)",
    hall.Hall.picture: "(self)",
    tape.judged: "(things, deeds, tape, *, reach=1000000000000)",
    pictures.read_picture: "(text)",
    texts.read_order: "(text)",
    texts.event_text: "(event)",
    desk.Desk: "()",
    desk.Desk.say: "(self, row)",
    seen.public: "(thing, deeds, tape)",
    seen.Onlooker: "()",
    seen.Onlooker.look: "(self, row)",
    seen.Onlooker.sight: "(self)",
    seen.Onlooker.deeds: "(self, thing)",
}

ROW = (0, "ann", "buy", 90, None, 5, 5, 0)

COMING = (7, "bob", "sell", 90, 3, "old")

STEPS = [(90, 5, 5), (95, 2, 9)]


def full_book():
    """A book of one row."""
    told = book.Book()
    told.put(ROW)
    return told


def full_hall():
    """A hall of a few orders."""
    told = hall.Hall([orders.listed("gold", 100)])
    told.tell(buy("ann", 5, 90))
    told.tell(sell("bob", 3, 95))
    return told


def full_desk():
    """A desk with a hall."""
    told = desk.Desk()
    told.say("hall 5 gold:100:-:rank")
    return told


def traded():
    """Accounts of one trade."""
    told = accounts.Accounts()
    told.trade("gold", "ann", "bob", 9, 5)
    return told


# How the object is made, or None where there is none, what is called, what is told by place or by name, and what is
# told by name alone.
CALLS = [
    (None, orders.listed, {"name": "gold", "start": 9}, {"band": 5, "rule": "share"}),
    (None, orders.listed, {"name": "gold", "start": 9}, {"band": None, "rule": "rank"}),
    (None, orders.Order, {"owner": "ann", "thing": "gold", "side": "buy", "amount": 40},
     {"price": 9, "shown": 5, "stop": 4, "life": "only", "guard": "new"}),
    (None, orders.ranked, {"rows": [ROW]}, {}),
    (None, orders.lets, {"price": 5, "side": "buy", "other": 4}, {}),
    (None, plain.plain_meet, {"rows": [ROW], "coming": COMING}, {"rank": 9, "band": 5, "anchor": 92, "rule": "share"}),
    (full_book, "put", {"row": (1,) + ROW[1:]}, {}),
    (full_book, "take", {"number": 0}, {}),
    (full_book, "row", {"number": 0}, {}),
    (full_book, "best", {"side": "buy"}, {}),
    (full_book, "level", {"side": "buy", "price": 90}, {}),
    (None, opening.table, {"rows": [ROW]}, {}),
    (None, opening.price_of, {"steps": STEPS, "last": 92}, {}),
    (None, opening.opening, {"rows": [ROW], "last": 92}, {"rank": 9}),
    (None, opening.worth, {"rows": [ROW], "price": 80}, {}),
    (None, opening.paired_off, {"rows": [ROW]}, {}),
    (traded, "trade", {"thing": "gold", "buyer": "ann", "seller": "bob", "price": 9, "amount": 5}, {}),
    (traded, "cash", {"owner": "ann"}, {}),
    (traded, "holding", {"owner": "ann", "thing": "gold"}, {}),
    (None, accounts.over, {"holding": 1, "buys": 2, "sells": 3, "reach": 2}, {}),
    (None, hall.Hall, {"things": [("gold", 100, None, "rank")]}, {"reach": 60}),
    (full_hall, "tell", {"order": sell("dan", 6, 89)}, {}),
    (full_hall, "cancel", {"number": 0}, {}),
    (full_hall, "sweep", {"owner": "ann"}, {}),
    (full_hall, "change", {"number": 0}, {"price": 91, "amount": 7}),
    (full_hall, "phase", {"thing": "gold", "word": "call"}, {}),
    (full_hall, "several", {"deeds": [("cancel", 0), ("sweep", "bob")]}, {}),
    (full_hall, "foretold", {"order": sell("dan", 6, 89)}, {}),
    (full_hall, "standing", {"thing": "gold"}, {}),
    (full_hall, "waiting", {"thing": "gold"}, {}),
    (full_hall, "phase_of", {"thing": "gold"}, {}),
    (full_hall, "last", {"thing": "gold"}, {}),
    (full_hall, "anchor", {"thing": "gold"}, {}),
    (full_hall, "cash", {"owner": "ann"}, {}),
    (full_hall, "holding", {"owner": "ann", "thing": "gold"}, {}),
    (full_hall, "sight", {"thing": "gold"}, {}),
    (full_hall, "cost", {"thing": "gold", "side": "buy", "amount": 2}, {}),
    (None, tape.judged, {"things": [("gold", 100, None, "rank")], "deeds": [("tell", buy("ann", 5, 90))],
                         "tape": [[("none",)]]}, {"reach": 4}),
    (None, pictures.read_picture, {"text": full_hall().picture()}, {}),
    (None, texts.read_order, {"text": "buy 5 gold at 9 by ann"}, {}),
    (None, texts.event_text, {"event": ("opened", "gold", None, 0)}, {}),
    (full_desk, "say", {"row": "tell buy 5 gold at 9 by ann"}, {}),
    (None, seen.public, {"thing": "gold", "deeds": [("tell", buy("ann", 5, 90))],
                         "tape": [[("taken", 0), ("rests", 0, 5)]]}, {}),
    (seen.Onlooker, "look", {"row": ("stands", 0, "buy", 9, 5)}, {}),
    (seen.Onlooker, "deeds", {"thing": "gold"}, {}),
]


def parts_of(name):
    """What a file of the package holds at module level."""
    return ast.parse((FOLDER / name).read_text()).body


class Interface(unittest.TestCase):
    def test_defined_in_their_files(self):
        for file, names in DEFINED.items():
            defined = [part.name for part in parts_of(file) if isinstance(part, (ast.ClassDef, ast.FunctionDef))]
            for name in names:
                with self.subTest(file=file, name=name):
                    self.assertIn(name, defined)

    def test_methods_stand_in_their_class(self):
        for (file, name), methods in METHODS.items():
            body = [part.body for part in parts_of(file) if isinstance(part, ast.ClassDef) and part.name == name][0]
            defined = [part.name for part in body if isinstance(part, ast.FunctionDef)]
            for method in methods:
                with self.subTest(name=name, method=method):
                    self.assertIn(method, defined)

    def test_words_stand_in_their_file(self):
        for file, names in ASSIGNED.items():
            assigned = [part.targets[0].id for part in parts_of(file) if isinstance(part, ast.Assign)]
            self.assertEqual(sorted(assigned), sorted(names))

    def test_arguments(self):
        for named, told in ARGUMENTS.items():
            with self.subTest(name=named.__qualname__):
                self.assertEqual(str(inspect.signature(named)), told)


class Calls(unittest.TestCase):
    """What is told by place and by name, in any order."""

    def told(self, made, called, places, names):
        """The answer to a call."""
        if made is None:
            return called(*places, **names)
        return getattr(made(), called)(*places, **names)

    def test_by_place_and_by_name(self):
        for made, called, parts, more in CALLS:
            with self.subTest(called=called, parts=parts):
                answer = self.told(made, called, list(parts.values()), more)
                named = list({**parts, **more}.items())
                for order in (named, named[::-1], named[1:] + named[:1]):
                    self.assertEqual(self.told(made, called, [], dict(order)), answer)
                first = list(parts)[0]
                rest = {name: part for name, part in {**more, **parts}.items() if name != first}
                self.assertEqual(self.told(made, called, [parts[first]], rest), answer)

    def test_behind_the_star_by_name_alone(self):
        for made, called, parts, more in CALLS:
            if more:
                with self.subTest(called=called), self.assertRaises(TypeError):
                    self.told(made, called, list({**parts, **more}.values()), {})

    def test_in_any_order_behind_the_star(self):
        for made, called, parts, more in CALLS:
            answer = self.told(made, called, list(parts.values()), more)
            for names in itertools.islice(itertools.permutations(more), 24):
                told = self.told(made, called, list(parts.values()), {name: more[name] for name in names})
                self.assertEqual(told, answer)

    def test_defaults_left_out_and_told(self):
        usual = {
            "band": None, "rule": "rank", "price": None, "shown": None, "stop": None, "life": "rest", "guard": "old",
            "anchor": None, "reach": 1000000000000,
        }
        for called, places, needed in (
            (orders.listed, ["gold", 9], {}),
            (orders.Order, ["ann", "gold", "buy", 40], {"price": 9}),
            (plain.plain_meet, [[ROW], COMING], {"rank": 9}),
            (hall.Hall, [[("gold", 100, None, "rank")]], {}),
            (tape.judged, [[("gold", 100, None, "rank")], [("tell", buy("ann", 5, 90))], [[]]], {}),
        ):
            answer = called(*places, **needed)
            for name in inspect.signature(called).parameters:
                if name in usual and name not in needed:
                    self.assertEqual(called(*places, **needed, **{name: usual[name]}), answer)

    def test_meet_and_would(self):
        more = {"band": 5, "anchor": 92, "rule": "share"}
        told = {meet.meet(full_book(), COMING, rank=9)[1]}
        told.add(meet.meet(coming=COMING, book=full_book(), rule="rank", anchor=None, band=None, rank=9)[1])
        told.add(meet.meet(rank=9, **more, coming=COMING, book=full_book())[1])
        self.assertEqual(told, {0})
        self.assertEqual(meet.would(full_book(), COMING), (3, 270))
        self.assertEqual(meet.would(coming=COMING, **more, book=full_book()), (3, 270))
        with self.assertRaises(TypeError):
            meet.meet(full_book(), COMING, 9)
        with self.assertRaises(TypeError):
            meet.would(full_book(), COMING, 5)

    def test_what_is_called_with_nothing(self):
        self.assertEqual(full_book().rows(), [ROW])
        self.assertEqual(full_book().sight(), ([(90, 5, 1)], []))
        self.assertEqual(traded().rows(), [("ann", -45, [("gold", 5)]), ("bob", 45, [("gold", -5)])])
        self.assertEqual(full_hall().picture().count("\n"), 4)
        self.assertEqual(seen.Onlooker().sight(), ([], []))
        self.assertEqual([len(full_book()), len(full_hall()), len(seen.Onlooker())], [1, 2, 0])

    def test_refusals_by_name(self):
        for kind, field in (
            (errors.BadThing, "word"), (errors.BadOrder, "word"), (errors.NoThing, "name"), (errors.NoOrder, "number"),
            (errors.Shut, "name"), (errors.BadPhase, "word"), (errors.OverReach, "owner"), (errors.Refused, "place"),
            (errors.NoPicture, "line"), (errors.NoText, "word"), (errors.NoView, "word"),
        ):
            self.assertEqual(vars(kind("x")), {field: "x"})
            self.assertEqual(vars(kind(**{field: "x"})), {field: "x"})
        self.assertEqual(words.REACH, 1000000000000)


if __name__ == "__main__":
    unittest.main()
