"""Points 22 and 23: what anybody sees, and an onlooker who is told it."""

import random
import unittest

from anything import ANYTHING, alike
from hallcase import buy, sell, tape_of
from madedeeds import some_deeds
from onlookoracle import sight_of, wrong
from plainhall import PlainHall
from ringhall.errors import HallError, NoView
from ringhall.hall import Hall
from ringhall.kinds import is_name
from ringhall.orders import listed
from ringhall.seen import Onlooker, owner_of, public

MOST = 1000000000

THING = listed("gold", 100)
BOTH = [THING, listed("tin", 100, band=2, rule="share")]


def alone(seed, many, **bounds):
    """Made deeds that turn no phase of gold."""
    deeds = some_deeds(seed, many, **bounds)
    return [deed for deed in deeds if not (isinstance(deed, tuple) and deed[:2] == ("phase", "gold"))]


class Public(unittest.TestCase):
    def shows(self, deeds, rows, things=(THING,), name="gold"):
        """Checks the rows of deeds, and of their beginnings."""
        tape = tape_of(Hall(list(things)), deeds)
        told = public(name, deeds, tape)
        self.assertIs(type(told), list)
        self.assertTrue(alike(told, rows), told)
        for many in range(len(deeds)):
            part = public(name, deeds[:many], tape[:many])
            self.assertEqual(part, rows[:len(part)])
        return tape

    def test_nothing(self):
        self.shows([], [])
        self.shows([("cancel", 0), ("sweep", "ann"), ("nosuch",), None], [])

    def test_by_name(self):
        deeds = [("tell", buy("ann", 5, 90))]
        tape = tape_of(Hall([THING]), deeds)
        self.assertEqual(public(tape=tape, deeds=deeds, thing="gold"), [("stands", 0, "buy", 90, 5)])

    def test_a_thing_as_listed(self):
        deeds = [("tell", buy("ann", 5, 90))]
        tape = tape_of(Hall([THING]), deeds)
        self.assertEqual(public(THING, deeds, tape), [("stands", 0, "buy", 90, 5)])

    def test_stands_and_met(self):
        self.shows([
            ("tell", buy("ann", 5, 90)), ("tell", sell("bob", 9, 95, shown=2)), ("tell", sell("cid", 3, 90)),
            ("tell", sell("cid", 7, 90)),
        ], [
            ("stands", 0, "buy", 90, 5), ("stands", 1, "sell", 95, 2), ("met", 0, 3), ("met", 0, 2),
            ("stands", 2, "sell", 90, 5),
        ])

    def test_next(self):
        self.shows([
            ("tell", sell("bob", 5, 95, shown=2)), ("tell", buy("ann", 1, 95)), ("tell", buy("ann", 1, 95)),
            ("tell", buy("ann", 3, 95)), ("tell", sell("bob", 4, 95, shown=3)), ("tell", buy("ann", 9, 95)),
        ], [
            ("stands", 0, "sell", 95, 2), ("met", 0, 1), ("met", 0, 1), ("next", 0, 2), ("met", 0, 2), ("next", 0, 1),
            ("met", 0, 1), ("stands", 1, "sell", 95, 3), ("met", 1, 3), ("next", 1, 1), ("met", 1, 1),
            ("stands", 2, "buy", 95, 5),
        ])

    def test_several_are_met(self):
        self.shows([
            ("tell", sell("bob", 4, 95, shown=2)), ("tell", sell("cid", 3, 95)), ("tell", sell("dan", 3, 94)),
            ("tell", buy("ann", 9, 95)),
        ], [
            ("stands", 0, "sell", 95, 2), ("stands", 1, "sell", 95, 3), ("stands", 2, "sell", 94, 3), ("met", 2, 3),
            ("met", 0, 2), ("next", 0, 2), ("met", 1, 3), ("met", 0, 1),
        ])

    def test_lives_that_do_not_stand(self):
        self.shows([
            ("tell", sell("bob", 5, 95)), ("tell", buy("ann", 6, 95, life="whole")),
            ("tell", buy("ann", 6, 95, life="only")), ("tell", buy("ann", 2, life="now")),
            ("tell", buy("ann", 4, 95, life="now")),
        ], [("stands", 0, "sell", 95, 5), ("met", 0, 2), ("met", 0, 3)])

    def test_made_less(self):
        self.shows([
            ("tell", sell("bob", 9, 95, shown=4)), ("change", 0, None, 9), ("change", 0, None, 6),
            ("change", 0, None, 4), ("change", 0, None, 3), ("change", 0, 95, 1), ("tell", buy("ann", 1, 95)),
        ], [("stands", 0, "sell", 95, 4), ("less", 0, 3), ("less", 0, 1), ("met", 0, 1)])

    def test_made_less_of_a_part(self):
        self.shows([
            ("tell", sell("bob", 9, 95, shown=4)), ("tell", buy("ann", 1, 95)), ("change", 0, None, 5),
            ("change", 0, None, 2), ("tell", buy("ann", 3, 95)),
        ], [
            ("stands", 0, "sell", 95, 4), ("met", 0, 1), ("less", 0, 2), ("met", 0, 2), ("stands", 1, "buy", 95, 1),
        ])

    def test_hidden_made_less_shows_as_the_last_part(self):
        self.shows([
            ("tell", sell("bob", 9, 95, shown=4)), ("change", 0, None, 5), ("tell", buy("ann", 4, 95)),
        ], [("stands", 0, "sell", 95, 4), ("met", 0, 4), ("next", 0, 1)])

    def test_changed(self):
        self.shows([
            ("tell", sell("bob", 9, 95, shown=4)), ("change", 0, 96, None), ("change", 0, None, 20),
            ("change", 0, 94, 3), ("tell", buy("ann", 1, 80)), ("change", 0, 80, 2), ("change", 1, None, 5),
        ], [
            ("stands", 0, "sell", 95, 4), ("gone", 0), ("stands", 1, "sell", 96, 4), ("gone", 1),
            ("stands", 2, "sell", 96, 4), ("gone", 2), ("stands", 3, "sell", 94, 3), ("stands", 4, "buy", 80, 1),
            ("gone", 3), ("met", 4, 1), ("stands", 5, "sell", 80, 1),
        ])

    def test_changed_and_traded_away_or_off(self):
        self.shows([
            ("tell", sell("bob", 4, 95)), ("tell", buy("ann", 4, 90)), ("change", 0, 90, None),
            ("tell", buy("ann", 4, 90)), ("tell", sell("cid", 4, 95, life="only")), ("change", 3, 90, None),
        ], [
            ("stands", 0, "sell", 95, 4), ("stands", 1, "buy", 90, 4), ("gone", 0), ("met", 1, 4),
            ("stands", 2, "buy", 90, 4), ("stands", 3, "sell", 95, 4), ("gone", 3),
        ])

    def test_cancelled_and_swept(self):
        self.shows([
            ("tell", sell("bob", 9, 95, shown=4)), ("tell", sell("bob", 9, 96)), ("tell", sell("bob", 9, 97, stop=5)),
            ("tell", sell("cid", 9, 98)), ("cancel", 0), ("cancel", 2), ("sweep", "bob"), ("sweep", "cid"),
        ], [
            ("stands", 0, "sell", 95, 4), ("stands", 1, "sell", 96, 9), ("stands", 2, "sell", 98, 9), ("gone", 0),
            ("gone", 1), ("gone", 2),
        ])

    def test_guards(self):
        for guard, rows in (
            ("old", [("gone", 0), ("met", 1, 2)]),
            ("new", []),
            ("both", [("gone", 0)]),
            ("less", [("less", 0, 3)]),
        ):
            self.shows(
                [("tell", sell("ann", 9, 95, shown=4)), ("tell", sell("bob", 2, 96)),
                 ("tell", buy("ann", 6, 96, guard=guard, life="now"))],
                [("stands", 0, "sell", 95, 4), ("stands", 1, "sell", 96, 2)] + rows,
            )

    def test_guard_less(self):
        ahead = [("tell", sell("ann", 9, 95, shown=4)), ("tell", sell("bob", 2, 96))]
        rows = [("stands", 0, "sell", 95, 4), ("stands", 1, "sell", 96, 2)]
        for amount, more in (
            (5, []), (6, [("less", 0, 3)]), (8, [("less", 0, 1)]), (9, [("gone", 0)]),
            (10, [("gone", 0), ("met", 1, 1)]), (12, [("gone", 0), ("met", 1, 2), ("stands", 2, "buy", 96, 1)]),
        ):
            self.shows(ahead + [("tell", buy("ann", amount, 96, guard="less"))], rows + more)
            # Only as much as is left of it comes to stand, and is made less again.
        deeds = ahead + [("tell", buy("ann", 14, 96, guard="less", shown=2)), ("change", 2, None, 1)]
        more = [("gone", 0), ("met", 1, 2), ("stands", 2, "buy", 96, 2), ("less", 2, 1)]
        self.shows(deeds, rows + more)

    def test_a_coming_one_made_less_stands_with_the_rest(self):
        self.shows([
            ("tell", sell("ann", 3, 95)), ("tell", buy("ann", 9, 95, guard="less", shown=5)),
            ("tell", sell("bob", 5, 95)),
        ], [
            ("stands", 0, "sell", 95, 3), ("gone", 0), ("stands", 1, "buy", 95, 5), ("met", 1, 5), ("next", 1, 1),
        ])

    def test_a_changed_one_made_less_stands_with_the_rest(self):
        self.shows([
            ("tell", buy("ann", 5, 90, guard="less")), ("tell", sell("ann", 3, 95)), ("change", 0, 95, None),
            ("tell", sell("bob", 5, 95)),
        ], [
            ("stands", 0, "buy", 90, 5), ("stands", 1, "sell", 95, 3), ("gone", 0), ("gone", 1),
            ("stands", 2, "buy", 95, 2), ("met", 2, 2), ("stands", 3, "sell", 95, 3),
        ])

    def test_waiting_and_woken(self):
        self.shows([
            ("tell", sell("bob", 2, 105)), ("tell", buy("cid", 9, 90, stop=105, shown=3)), ("change", 1, 91, 8),
            ("tell", buy("cid", 9, 90, stop=200)), ("tell", buy("ann", 1, 105)), ("change", 2, 80, 1), ("cancel", 2),
            ("tell", sell("bob", 3, 91)),
        ], [
            ("stands", 0, "sell", 105, 2), ("met", 0, 1), ("stands", 1, "buy", 91, 3), ("met", 1, 3), ("next", 1, 3),
        ])

    def test_what_is_refused(self):
        self.shows([
            ("tell", buy("ann", 5, 90)), ("cancel", 5), ("change", 0, None, None), ("tell", buy("ann", 5, 90, "lead")),
            ("phase", "gold", "open"), ("nosuch",), ("change", 0, None, 2),
        ], [("stands", 0, "buy", 90, 5), ("less", 0, 2)])

    def test_things_apart(self):
        deeds = [
            ("tell", buy("ann", 5, 90)), ("tell", buy("ann", 5, 90, "tin")), ("tell", buy("ann", 5, 89)),
            ("tell", sell("bob", 3, 90, "tin")), ("phase", "tin", "call"), ("tell", sell("bob", 3, 1, "tin")),
            ("phase", "tin", "open"), ("sweep", "ann"), ("tell", sell("bob", 3, 91)),
        ]
        self.shows(deeds, [
            ("stands", 0, "buy", 90, 5), ("stands", 1, "buy", 89, 5), ("gone", 0), ("gone", 1),
            ("stands", 2, "sell", 91, 3),
        ], things=BOTH)

    def test_what_is_handed_in_stays(self):
        order = buy("ann", 5, 90)
        deeds = [("tell", order), ("cancel", 0)]
        tape = [[("taken", 0), ("rests", 0, 5)], [("off", 0, 5, "cancel")]]
        told = public("gold", deeds, tape)
        self.assertEqual(deeds, [("tell", order), ("cancel", 0)])
        self.assertEqual(tape, [[("taken", 0), ("rests", 0, 5)], [("off", 0, 5, "cancel")]])
        self.assertEqual(order, buy("ann", 5, 90))
        told.clear()
        self.assertEqual(public("gold", deeds, tape), [("stands", 0, "buy", 90, 5), ("gone", 0)])


class Lookout(unittest.TestCase):
    def looked(self, rows):
        """An onlooker who was told rows."""
        onlooker = Onlooker()
        for row in rows:
            self.assertIsNone(onlooker.look(row))
        return onlooker

    def refused(self, onlooker, row, word):
        """Checks that a row is refused, and that the onlooker stays as it is."""
        ahead = (onlooker.sight(), len(onlooker), [str(deed[1]) for deed in onlooker.deeds("gold")])
        with self.assertRaises(NoView) as caught:
            onlooker.look(row)
        self.assertEqual(caught.exception.word, word, row)
        behind = (onlooker.sight(), len(onlooker), [str(deed[1]) for deed in onlooker.deeds("gold")])
        self.assertEqual(behind, ahead)

    def wrong(self, rows, row, word):
        """Checks that behind these rows another one is refused."""
        self.assertEqual(wrong(rows, row), word)
        onlooker = self.looked(rows)
        self.refused(onlooker, row, word)
        self.refused(onlooker, row, word)

    def so(self, rows):
        """Checks that rows are let by, and what their deeds show; tells the onlooker."""
        onlooker = Onlooker()
        for at, row in enumerate(rows):
            self.assertIsNone(wrong(rows[:at], row))
            self.assertIsNone(onlooker.look(row))
            self.assertTrue(alike(onlooker.sight(), sight_of(rows[:at + 1])))
        self.shows(onlooker, rows)
        return onlooker

    def shows(self, onlooker, rows):
        """Checks that a new hall shows just these rows by the onlooker's deeds, and refuses none."""
        for start in (1, 100, 1000000):
            hall = Hall([listed("gold", start)])
            deeds = onlooker.deeds("gold")
            self.assertIs(type(deeds), list)
            tape = [hall.do(deed) for deed in deeds]
            self.assertTrue(alike(public("gold", deeds, tape), list(rows)))
            self.assertEqual(hall.sight("gold"), onlooker.sight())
            self.assertEqual(len(hall), len(onlooker))


BUYS = [("stands", 0, "buy", 90, 5), ("stands", 1, "buy", 91, 4), ("stands", 2, "buy", 90, 3)]
SELLS = [("stands", 3, "sell", 95, 5), ("stands", 4, "sell", 94, 4), ("stands", 5, "sell", 95, 3)]


class Look(Lookout):
    def test_nothing_at_first(self):
        onlooker = Onlooker()
        self.assertEqual(onlooker.sight(), ([], []))
        self.assertEqual(len(onlooker), 0)
        self.assertEqual(onlooker.deeds("gold"), [])

    def test_by_name(self):
        onlooker = Onlooker()
        self.assertIsNone(onlooker.look(row=BUYS[0]))
        self.assertEqual(len(onlooker.deeds(thing="gold")), 1)

    def test_stands(self):
        onlooker = self.so(BUYS + SELLS)
        self.assertEqual(onlooker.sight(), ([(91, 4, 1), (90, 8, 2)], [(94, 4, 1), (95, 8, 2)]))
        self.assertEqual(len(onlooker), 6)

    def test_met_less_and_gone(self):
        onlooker = self.so(BUYS + SELLS + [
            ("met", 1, 3), ("less", 0, 2), ("met", 1, 1), ("met", 0, 1), ("gone", 3), ("met", 4, 4), ("met", 5, 1),
            ("less", 5, 1), ("gone", 2),
        ])
        self.assertEqual(onlooker.sight(), ([(90, 1, 1)], [(95, 1, 1)]))
        self.assertEqual(len(onlooker), 2)

    def test_told_lists_are_the_askers_own(self):
        onlooker = self.looked(BUYS)
        for side in onlooker.sight():
            side.clear()
        onlooker.deeds("gold").clear()
        onlooker.deeds("gold")[0][1].amount = 77
        self.assertEqual(onlooker.sight(), ([(91, 4, 1), (90, 8, 2)], []))
        self.shows(onlooker, BUYS)

    def test_two_beside_one_another(self):
        one, other = self.looked(BUYS), self.looked(BUYS[:1])
        one.look(("gone", 0))
        self.assertEqual((len(one), len(other)), (2, 1))


class NoRow(Lookout):
    def test_of_anything(self):
        for rows in ([], BUYS):
            for other in ANYTHING + [list(BUYS[0]), {}, b"gone", Onlooker(), ("gone", 0.0), set()]:
                self.wrong(rows, other, "row")

    def test_words_and_parts(self):
        for row in (
            ("stand", 3, "buy", 90, 5), ("Stands", 3, "buy", 90, 5), ("", 0), (None, 0), (0, 0), ("gone",), ("stands",),
            ("gone", 0, 0), ("met", 1), ("met", 1, 1, 1), ("next", 1), ("next", 1, 1, 1), ("less", 1),
            ("less", 1, 1, 1), ("stands", 3, "buy", 90), ("stands", 3, "buy", 90, 5, 5), (("gone", 0),), ("none",),
            ("taken", 0), (["gone"], 0), (("gone",), 0), ["gone", 0],
        ):
            self.wrong(BUYS, row, "row")

    def test_kinds_and_bounds(self):
        for mark in (-1, True, False, None, "0", [0], (0,), 10 ** 60 * -1):
            for word in ("met", "next", "less"):
                self.wrong(BUYS, (word, mark, 1), "row")
            self.wrong(BUYS, ("stands", mark, "buy", 90, 5), "row")
            self.wrong(BUYS, ("gone", mark), "row")
        for amount in (0, -1, MOST + 1, True, None, "1", [1], 10 ** 60):
            for row in (("stands", 3, "buy", 90, amount), ("met", 1, amount), ("next", 1, amount), ("less", 1, amount)):
                self.wrong(BUYS, row, "row")
        for side in ("Buy", "", None, 0, ["buy"], ("buy",), "buys", True):
            self.wrong(BUYS, ("stands", 3, side, 90, 5), "row")
        for price in (0, -1, 1000001, True, None, "90", [90]):
            self.wrong(BUYS, ("stands", 3, "buy", price, 5), "row")

    def test_bounds_that_are_so(self):
        self.so([("stands", 0, "buy", 1, MOST), ("stands", 1, "sell", 1000000, 1), ("met", 0, MOST), ("met", 1, 1)])


class Number(Lookout):
    def test_stands(self):
        for mark in (0, 1, 2, 4, 5, 10 ** 60):
            self.wrong(BUYS, ("stands", mark, "buy", 90, 5), "number")
        for mark in (1, 2):
            self.wrong([], ("stands", mark, "buy", 90, 5), "number")
        # What is gone has had its number.
        self.wrong(BUYS + [("gone", 2)], ("stands", 2, "buy", 90, 5), "number")
        self.so(BUYS + [("gone", 2), ("stands", 3, "buy", 90, 5)])

    def test_met_less_and_gone(self):
        for rows, mark in (
            ([], 0), (BUYS, 3), (BUYS, 10 ** 60), (BUYS + [("gone", 1)], 1), (BUYS + [("met", 1, 4)], 1),
        ):
            for row in (("met", mark, 1), ("less", mark, 1), ("gone", mark)):
                self.wrong(rows, row, "number")

    def test_next(self):
        self.wrong([], ("next", 0, 1), "number")
        met = BUYS + [("met", 1, 4)]
        for mark in (0, 2, 3):
            self.wrong(met, ("next", mark, 3), "number")
        self.wrong(BUYS, ("next", 1, 1), "number")
        self.wrong(met + [("met", 0, 1)], ("next", 1, 1), "number")
        self.wrong(met + [("stands", 3, "sell", 95, 1)], ("next", 1, 1), "number")


class Price(Lookout):
    def test_stands(self):
        for rows in (BUYS + SELLS, BUYS + SELLS + [("met", 4, 1)]):
            for price in (94, 95, 1000000):
                self.wrong(rows, ("stands", 6, "buy", price, 1), "price")
            for price in (1, 90, 91):
                self.wrong(rows, ("stands", 6, "sell", price, 1), "price")
            self.so(rows + [("stands", 6, "buy", 93, 1), ("stands", 7, "buy", 1, 1)])
            self.so(rows + [("stands", 6, "sell", 92, 1), ("stands", 7, "sell", 1000000, 1)])

    def test_of_what_stands_no_more(self):
        for ahead in ([("met", 4, 4)], [("gone", 4)]):
            self.wrong(BUYS + SELLS + ahead, ("stands", 6, "buy", 95, 1), "price")
            self.so(BUYS + SELLS + ahead + [("stands", 6, "buy", 94, 1)])


class Best(Lookout):
    def test_by_price(self):
        for mark in (0, 2, 3, 5):
            self.wrong(BUYS + SELLS, ("met", mark, 1), "best")
        self.so(BUYS + SELLS + [("met", 1, 1), ("met", 4, 1)])

    def test_by_rank(self):
        rows = BUYS + SELLS + [("gone", 1), ("gone", 4)]
        for mark in (2, 5):
            self.wrong(rows, ("met", mark, 1), "best")
        self.so(rows + [("met", 0, 1), ("met", 3, 1), ("met", 0, 4), ("met", 2, 1)])

    def test_behind_all_of_its_price(self):
        rows = [("stands", 0, "sell", 95, 2), ("stands", 1, "sell", 95, 3), ("met", 0, 2), ("next", 0, 2)]
        self.wrong(rows, ("met", 0, 1), "best")
        self.so(rows + [("met", 1, 3), ("met", 0, 1)])
        self.so(rows + [("stands", 2, "sell", 95, 1), ("met", 1, 3), ("met", 0, 2), ("met", 2, 1)])

    def test_less_keeps_its_rank(self):
        rows = BUYS + [("gone", 1), ("less", 0, 1)]
        self.wrong(rows, ("met", 2, 1), "best")
        self.so(rows + [("met", 0, 1), ("met", 2, 1)])


class Amount(Lookout):
    def test_met(self):
        for amount in (5, 6, MOST):
            self.wrong(BUYS, ("met", 1, amount), "amount")
        self.so(BUYS + [("met", 1, 4)])
        self.wrong(BUYS + [("met", 1, 2)], ("met", 1, 3), "amount")
        self.wrong(BUYS + [("less", 1, 2)], ("met", 1, 3), "amount")

    def test_less(self):
        for amount in (4, 5, MOST):
            self.wrong(BUYS, ("less", 1, amount), "amount")
        self.so(BUYS + [("less", 1, 3), ("less", 1, 1)])
        self.wrong(BUYS + [("less", 1, 3)], ("less", 1, 3), "amount")
        self.wrong(BUYS + [("met", 1, 2)], ("less", 1, 2), "amount")
        # It need not be the best.
        self.so(BUYS + [("less", 2, 2), ("less", 0, 4)])

    def test_best_goes_ahead(self):
        self.wrong(BUYS, ("met", 0, 6), "best")


class Next(Lookout):
    FIRST = [("stands", 0, "sell", 95, 5)]
    MET = FIRST + [("met", 0, 5)]

    def test_as_much_and_less_and_more(self):
        self.so(self.MET + [("next", 0, 5)])
        self.so(self.MET + [("next", 0, 4)])
        self.so(self.MET + [("next", 0, 1), ("met", 0, 1)])
        for seen in (6, 7, MOST):
            self.wrong(self.MET, ("next", 0, seen), "next")

    def test_the_row_ahead(self):
        self.wrong(self.FIRST, ("next", 0, 1), "next")
        self.wrong(self.FIRST + [("met", 0, 4)], ("next", 0, 1), "next")
        self.wrong(self.FIRST + [("gone", 0)], ("next", 0, 1), "next")
        self.wrong(self.FIRST + [("less", 0, 1)], ("next", 0, 1), "next")
        self.wrong(self.MET + [("next", 0, 5)], ("next", 0, 5), "next")

    def test_behind_a_lesser_part(self):
        rows = self.MET + [("next", 0, 4), ("met", 0, 4)]
        for seen in (1, 4, 5):
            self.wrong(rows, ("next", 0, seen), "next")
        rows = self.MET + [("next", 0, 5), ("met", 0, 2), ("met", 0, 3), ("next", 0, 3), ("met", 0, 3)]
        self.wrong(rows, ("next", 0, 1), "next")
        self.so(rows)

    def test_behind_less(self):
        rows = self.FIRST + [("less", 0, 4), ("met", 0, 4)]
        for seen in (1, 4, 5):
            self.wrong(rows, ("next", 0, seen), "next")
        rows = self.MET + [("next", 0, 5), ("less", 0, 2), ("met", 0, 2)]
        self.wrong(rows, ("next", 0, 1), "next")
        self.so(rows)

    def test_less_of_another(self):
        rows = self.FIRST + [("stands", 1, "sell", 96, 5), ("less", 1, 1), ("met", 0, 5), ("next", 0, 5)]
        self.so(rows)

    def test_twenty_times(self):
        rows = list(self.MET)
        for _ in range(18):
            rows += [("next", 0, 5), ("met", 0, 5)]
        self.so(rows)
        self.so(rows + [("next", 0, 5)])
        self.so(rows + [("next", 0, 4)])
        self.wrong(rows + [("next", 0, 5), ("met", 0, 5)], ("next", 0, 1), "next")

    def test_the_greatest_amount(self):
        part = 400000000
        rows = [("stands", 0, "sell", 95, part), ("met", 0, part), ("next", 0, part), ("met", 0, part)]
        self.so(rows + [("next", 0, 200000000), ("met", 0, 200000000)])
        self.wrong(rows, ("next", 0, 200000001), "next")
        self.wrong(rows, ("next", 0, 400000000), "next")
        rows = [("stands", 0, "sell", 95, MOST), ("met", 0, MOST)]
        self.wrong(rows, ("next", 0, 1), "next")
        rows = [("stands", 0, "sell", 95, MOST - 1), ("met", 0, 1), ("met", 0, MOST - 2)]
        self.so(rows + [("next", 0, 1)])
        self.wrong(rows, ("next", 0, 2), "next")

    def test_a_refused_one_leaves_what_may_follow(self):
        onlooker = self.looked(self.MET)
        for row, word in (
            (("next", 0, 6), "next"), (("next", 1, 5), "number"), (("met", 0, 1), "number"), (None, "row"),
            (("gone", 0), "number"), (("stands", 0, "buy", 5, 5), "number"),
        ):
            self.refused(onlooker, row, word)
        self.assertIsNone(onlooker.look(("next", 0, 5)))
        self.refused(onlooker, ("next", 0, 5), "next")
        self.assertEqual(onlooker.sight(), ([], [(95, 5, 1)]))
        self.shows(onlooker, self.MET + [("next", 0, 5)])

    def test_it_stands_no_more_but_by_a_next(self):
        onlooker = self.looked(self.MET)
        self.assertEqual((onlooker.sight(), len(onlooker)), (([], []), 0))
        onlooker.look(("next", 0, 3))
        self.assertEqual((onlooker.sight(), len(onlooker)), (([], [(95, 3, 1)]), 1))


class Deeds(Lookout):
    def test_many_orders_are_within_the_reach(self):
        rows = []
        for mark in range(1200):
            rows.append(("stands", mark, "buy", 1 + mark % 7, MOST))
        onlooker = self.looked(rows)
        for mark in range(1200):
            if 1 + mark % 7 == 7:
                rows.append(("met", mark, MOST))
                onlooker.look(rows[-1])
        self.shows(onlooker, rows)

    def test_each_number_has_an_owner_of_its_own(self):
        names = [owner_of(number) for number in range(20000)]
        self.assertEqual(names[:3] + names[25:28] + names[701:703], ["a", "b", "c", "z", "aa", "ab", "zz", "aaa"])
        self.assertEqual(len(set(names)), 20000)
        self.assertTrue(all(map(is_name, names + [owner_of(10 ** 11)])))

    def test_any_name(self):
        onlooker = self.looked(BUYS)
        for name in ("a", "zzzzzzzz", "tin"):
            hall = Hall([listed(name, 5)])
            deeds = onlooker.deeds(name)
            tape = [hall.do(deed) for deed in deeds]
            self.assertEqual(public(name, deeds, tape), BUYS)

    def test_a_row_of_all_short_rows(self):
        # Every row of five steps over a few rows, by the rule told once more.
        steps = [
            ("stands", 0, "buy", 5, 2), ("stands", 1, "sell", 6, 1), ("stands", 1, "buy", 5, 1), ("met", 0, 1),
            ("met", 0, 2), ("next", 0, 2), ("next", 0, 1), ("less", 0, 1), ("gone", 0), ("met", 1, 1), ("gone", 1),
        ]
        paths = [[]]
        for _ in range(5):
            longer = []
            for path in paths:
                onlooker = self.looked(path)
                for row in steps:
                    word = wrong(path, row)
                    if word is None:
                        longer.append(path + [row])
                    else:
                        with self.assertRaises(NoView) as caught:
                            onlooker.look(row)
                        self.assertEqual(caught.exception.word, word)
            paths = longer
        self.assertGreater(len(paths), 50)
        for path in paths:
            self.shows(self.looked(path), path)


class Made(Lookout):
    def test_what_a_hall_shows(self):
        """What public tells of made deeds is seen as the hall shows it, let by, and shown again by the deeds told."""
        for seed in range(60):
            hall = Hall(BOTH)
            deeds = alone(seed, 60, turns=0.05, stops=0.15)
            tape, told = [], 0
            onlooker = Onlooker()
            for deed in deeds:
                tape += tape_of(hall, [deed])
                rows = public("gold", deeds[:len(tape)], tape)
                for row in rows[told:]:
                    self.assertIsNone(onlooker.look(row))
                told = len(rows)
                self.assertEqual(onlooker.sight(), hall.sight("gold"))
                self.assertEqual(len(onlooker), len(hall.standing("gold")))
            self.shows(onlooker, rows)
            for many in (0, len(rows) // 3, len(rows) - 1):
                self.shows(self.looked(rows[:many]), rows[:many])

    def test_of_a_plain_hall_too(self):
        for seed in range(20):
            deeds = alone(seed + 200, 50, turns=0)
            hall = PlainHall(BOTH)
            rows = public("gold", deeds, tape_of(hall, deeds))
            self.assertEqual(self.looked(rows).sight(), hall.sight("gold"))

    def test_made_rows(self):
        words = ["stands", "stands", "met", "met", "met", "next", "next", "less", "gone"]
        for seed in range(150):
            chance = random.Random(seed)
            onlooker, rows = Onlooker(), []
            for _ in range(60):
                marks = sum(row[0] == "stands" for row in rows)
                mark = rows[-1][1] if rows and chance.random() < 0.35 else chance.randint(0, marks)
                word = chance.choice(words)
                row = (word, mark, chance.randint(1, 4))
                if word == "stands":
                    row = (word, marks, chance.choice(["buy", "sell"]), chance.randint(1, 6), chance.randint(1, 4))
                elif word == "gone":
                    row = (word, mark)
                told = wrong(rows, row)
                if told is None:
                    self.assertIsNone(onlooker.look(row))
                    rows.append(row)
                    self.assertEqual(onlooker.sight(), sight_of(rows))
                else:
                    with self.assertRaises(NoView) as caught:
                        onlooker.look(row)
                    self.assertEqual(caught.exception.word, told)
            self.shows(onlooker, rows)

    def test_a_shown_row_otherwise(self):
        for seed in range(25):
            chance = random.Random(seed)
            hall = Hall([THING])
            deeds = alone(seed + 400, 40, names=("gold",), turns=0)
            rows = public("gold", deeds, tape_of(hall, deeds))
            for _ in range(20):
                at = chance.randrange(len(rows))
                row = rows[at]
                part = chance.randrange(len(row))
                row = row[:part] + (chance.choice([0, 1, 2, 90, 10 ** 9 + 1, "met", "buy", None]),) + row[part + 1:]
                word = wrong(rows[:at], row)
                onlooker = self.looked(rows[:at])
                if word is None:
                    self.assertIsNone(onlooker.look(row))
                else:
                    self.refused(onlooker, row, word)


class Judging(unittest.TestCase):
    def test_each_deed_is_no_refused_one(self):
        onlooker = Onlooker()
        for row in BUYS + [("met", 1, 4), ("next", 1, 2), ("less", 1, 1), ("gone", 0)]:
            onlooker.look(row)
        deeds = onlooker.deeds("gold")
        self.assertEqual([deed[0] for deed in deeds], ["tell", "tell", "tell", "tell", "change", "cancel"])
        hall = Hall([THING])
        try:
            hall.several(deeds)
        except HallError as why:
            self.fail(why)


if __name__ == "__main__":
    unittest.main()
