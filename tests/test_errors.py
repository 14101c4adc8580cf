"""Point 2, and the interface: the error classes and their fields."""

import unittest

from anything import ANYTHING, alike
from ringhall import errors
from ringhall.errors import (
    BadOrder, BadPhase, BadThing, HallError, NoDeed, NoOrder, NoPicture, NoRow, NoText, NoThing, NoView,
    OverReach, Refused, Shut,
)

FIELDS = [
    (BadThing, "word"),
    (BadOrder, "word"),
    (NoThing, "name"),
    (NoOrder, "number"),
    (Shut, "name"),
    (BadPhase, "word"),
    (OverReach, "owner"),
    (Refused, "place"),
    (NoPicture, "line"),
    (NoText, "word"),
    (NoView, "word"),
]

BARE = [NoDeed, NoRow]

KINDS = [kind for kind, _ in FIELDS] + BARE


class Families(unittest.TestCase):
    def test_hall_error_is_a_value_error(self):
        self.assertTrue(issubclass(HallError, ValueError))
        self.assertIsNot(HallError, ValueError)

    def test_thirteen_kinds_beneath_hall_error(self):
        self.assertEqual(len(set(KINDS)), 13)
        for kind in KINDS:
            with self.subTest(kind=kind.__name__):
                self.assertTrue(issubclass(kind, HallError))
                self.assertTrue(issubclass(kind, ValueError))
                self.assertIsNot(kind, HallError)

    def test_none_beneath_another(self):
        for kind in KINDS:
            for other in KINDS:
                if kind is not other:
                    with self.subTest(kind=kind.__name__, other=other.__name__):
                        self.assertFalse(issubclass(kind, other))

    def test_raised_is_caught_as_a_refusal(self):
        for kind, _ in FIELDS:
            for family in (kind, HallError, ValueError):
                with self.subTest(kind=kind.__name__, family=family.__name__), self.assertRaises(family):
                    raise kind("x")
        for kind in BARE:
            for family in (kind, HallError, ValueError):
                with self.subTest(kind=kind.__name__, family=family.__name__), self.assertRaises(family):
                    raise kind()

    def test_names(self):
        for kind in KINDS + [HallError]:
            self.assertEqual(getattr(errors, kind.__name__), kind)


class Fields(unittest.TestCase):
    def test_by_place(self):
        for kind, field in FIELDS:
            for told in ANYTHING:
                with self.subTest(kind=kind.__name__, told=told):
                    self.assertTrue(alike(getattr(kind(told), field), told))

    def test_by_name(self):
        for kind, field in FIELDS:
            for told in ANYTHING:
                with self.subTest(kind=kind.__name__, told=told):
                    self.assertTrue(alike(getattr(kind(**{field: told}), field), told))

    def test_caught_by_its_field(self):
        for kind, field in FIELDS:
            with self.subTest(kind=kind.__name__):
                with self.assertRaises(kind) as caught:
                    raise kind(17)
                self.assertEqual(getattr(caught.exception, field), 17)

    def test_those_without_a_field(self):
        for kind in BARE:
            with self.subTest(kind=kind.__name__):
                self.assertIsInstance(kind(), kind)

    def test_what_is_handed_in_is_neither_changed_nor_kept(self):
        for kind, field in FIELDS:
            with self.subTest(kind=kind.__name__):
                inner = ["b"]
                told = ["a", inner, ("c", inner)]
                refusal = kind(told)
                self.assertEqual(told, ["a", ["b"], ("c", ["b"])])
                told.append("d")
                inner.append("e")
                self.assertEqual(getattr(refusal, field), ["a", ["b"], ("c", ["b"])])

    def test_two_do_not_share_a_field(self):
        first, second = BadThing("name"), BadThing("rule")
        self.assertEqual((first.word, second.word), ("name", "rule"))


if __name__ == "__main__":
    unittest.main()
