"""Point 16: several deeds, all or none, and what telling an order would tell."""

import itertools
import random
import unittest

from anything import MOST
from hallcase import HallCase, buy, hall_of, parts_of, sell
from madedeeds import some_deeds, some_order, some_things
from plainhall import PlainHall, refusal
from ringhall.errors import (
    BadOrder, BadPhase, HallError, NoDeed, NoOrder, NoThing, OverReach, Refused, Shut,
)
from ringhall.hall import Hall
from ringhall.words import CALL, OPEN, SHUT

TWO = (("gold", 90, None, "rank"), ("tin", 100, 3, "share"))

ORDER = buy("ann", 5, 90)

NO_DEEDS = [
    # No tuples.
    None, True, 0, "", "tell", "cancel", [], ["cancel", 0], ["tell", ORDER], ORDER, [("cancel", 0)],
    # Other words, or none.
    (), ("nosuch",), ("nosuch", 0), ("several", []), ("foretold", ORDER), ("Cancel", 0), ("cancel ", 0), ("", 0),
    (None, 0), (0, 0), (True, 0), (("cancel",), 0), (["cancel"], 0), (ORDER, ORDER), ("standing", "gold"), ("open",),
    # Parts more or fewer.
    ("tell",), ("tell", ORDER, ORDER), ("tell", ORDER, None), ("cancel",), ("cancel", 0, 0), ("sweep",),
    ("sweep", "ann", "ann"), ("change",), ("change", 0), ("change", 0, 95), ("change", 0, 95, 3, None), ("phase",),
    ("phase", "gold"), ("phase", "gold", CALL, CALL),
    # Parts of other kinds.
    ("tell", None), ("tell", 0), ("tell", "buy 5 gold at 90 by ann"), ("tell", (ORDER,)), ("tell", [ORDER]),
    ("tell", True), ("cancel", None), ("cancel", True), ("cancel", False), ("cancel", "0"), ("cancel", [0]),
    ("cancel", (0,)), ("cancel", ORDER), ("sweep", None), ("sweep", 0), ("sweep", True), ("sweep", ["ann"]),
    ("sweep", ("ann",)), ("sweep", ORDER),
    ("change", None, 95, 3), ("change", True, 95, 3), ("change", "0", 95, 3), ("change", [], 95, 3),
    ("change", 0, True, 3), ("change", 0, "95", 3), ("change", 0, [], 3), ("change", 0, (95,), None),
    ("change", 0, 95, False), ("change", 0, 95, "3"), ("change", 0, None, ""), ("change", 0, None, [3]),
    ("phase", None, CALL), ("phase", 0, CALL), ("phase", ["gold"], CALL), ("phase", "gold", None),
    ("phase", "gold", True), ("phase", "gold", 1), ("phase", "gold", [CALL]), ("phase", "gold", (CALL,)),
]

# Deeds that a hall of start() refuses where they are the first, and what refuses them.
REFUSED = [
    (("tell", buy("ann", 5, 90, "lead")), NoThing, {"name": "lead"}),
    (("tell", buy("ann", 51, 90)), OverReach, {"owner": "ann"}),
    (("tell", buy("ann", 5, 90, "tin")), Shut, {"name": "tin"}),
    (("cancel", 9), NoOrder, {"number": 9}),
    (("cancel", -1), NoOrder, {"number": -1}),
    (("cancel", MOST), NoOrder, {"number": MOST}),
    (("change", 9, 95, 3), NoOrder, {"number": 9}),
    (("change", 0, None, None), BadOrder, {"word": "amount"}),
    (("change", 0, 0, 3), BadOrder, {"word": "price"}),
    (("change", 0, 1000001, None), BadOrder, {"word": "price"}),
    (("change", 0, None, 0), BadOrder, {"word": "amount"}),
    (("change", 0, None, MOST), BadOrder, {"word": "amount"}),
    (("change", 0, None, 51), OverReach, {"owner": "ann"}),
    (("phase", "lead", CALL), NoThing, {"name": "lead"}),
    (("phase", "gold", OPEN), BadPhase, {"word": OPEN}),
    (("phase", "gold", "x"), BadPhase, {"word": "x"}),
]


def start():
    """A hall of a reach of 50 whose tin is shut, with orders that stand and wait."""
    orders = [buy("ann", 9, 90, shown=3), sell("bob", 4, 95), buy("cid", 2, 80, stop=95), sell("bob", 6, 96)]
    hall = hall_of(*orders, things=TWO, reach=50)
    hall.phase("tin", SHUT)
    return hall


class Several(HallCase):
    def test_all_in_one_list(self):
        hall = start()
        deeds = [
            ("tell", buy("dan", 5, 95)), ("change", 0, None, 2), ("change", 0, 91, 4), ("cancel", 4), ("sweep", "bob"),
            ("phase", "tin", CALL), ("tell", sell("eve", 1, life="whole")), ("sweep", "zoe"), ("change", 2, 85, None),
        ]
        told = [
            ("taken", 4), ("trade", 4, 1, 95, 4), ("rests", 4, 1), ("woken", 2), ("rests", 2, 2),
            ("less", 0, 7), ("changed", 0), ("rests", 0, 3), ("off", 4, 1, "cancel"), ("off", 3, 6, "cancel"),
            ("phase", "tin", CALL), ("taken", 5), ("trade", 0, 5, 91, 1), ("changed", 2), ("rests", 2, 2),
        ]
        self.tells(hall.several(deeds), told)
        one = start()
        events = []
        for deed in deeds:
            events += one.do(deed)
        self.tells(events, told)
        self.assertEqual(parts_of(hall, ("gold", "tin")), parts_of(one, ("gold", "tin")))

    def test_none_and_one(self):
        hall = start()
        ahead = hall.picture()
        self.tells(hall.several([]), [])
        self.assertEqual(hall.picture(), ahead)
        self.tells(hall.several([("cancel", 0)]), [("off", 0, 9, "cancel")])
        self.tells(hall.several(deeds=[("cancel", 1)]), [("off", 1, 4, "cancel")])

    def test_each_deed_alone(self):
        deeds = [
            ("tell", buy("dan", 5, 95)), ("cancel", 0), ("sweep", "bob"), ("change", 0, 95, None),
            ("change", 0, None, 10), ("change", 0, 96, 10), ("phase", "gold", CALL), ("phase", "tin", OPEN),
        ]
        for deed in deeds:
            hall, one = start(), start()
            self.tells(hall.several([deed]), one.do(deed))
            self.assertEqual(hall.picture(), one.picture())

    def test_the_list_handed_in_stays(self):
        hall = start()
        order = buy("dan", 5, 95)
        deeds = [("tell", order), ("cancel", 0), ("nosuch",)]
        with self.assertRaises(Refused):
            hall.several(deeds)
        self.assertEqual(deeds, [("tell", order), ("cancel", 0), ("nosuch",)])
        deeds.pop()
        hall.several(deeds)
        self.assertEqual(deeds, [("tell", order), ("cancel", 0)])
        self.assertEqual(order, buy("dan", 5, 95))

    def test_the_told_list_is_the_askers_own(self):
        hall = start()
        told = hall.several([("cancel", 0)])
        told.clear()
        self.tells(hall.several([("cancel", 1)]), [("off", 1, 4, "cancel")])

    def test_an_order_that_is_told_twice(self):
        hall = hall_of()
        order = buy("ann", 5, 90)
        told = [("taken", 0), ("rests", 0, 5), ("taken", 1), ("rests", 1, 5), ("off", 0, 5, "cancel")]
        self.tells(hall.several([("tell", order), ("tell", order), ("cancel", 0)]), told)


class SeveralRefused(HallCase):
    def refused_at(self, hall, place, kind, fields, deeds):
        why = self.refused(hall, Refused, ("place", place), hall.several, deeds)
        self.assertIs(type(why.__cause__), kind)
        self.assertEqual(vars(why.__cause__), fields)

    def test_no_deeds(self):
        hall = start()
        for deed in NO_DEEDS:
            with self.subTest(deed=deed):
                self.refused_at(hall, 0, NoDeed, {}, [deed])
                self.refused_at(hall, 1, NoDeed, {}, [("cancel", 0), deed, ("cancel", 1)])
                self.refused_at(hall, 2, NoDeed, {}, [("cancel", 0), ("sweep", "zoe"), deed])

    def test_refused_deeds(self):
        for deed, kind, fields in REFUSED:
            with self.subTest(deed=deed):
                hall = start()
                self.refused_at(hall, 0, kind, fields, [deed])
                self.refused_at(hall, 0, kind, fields, [deed, deed])
                self.refused_at(hall, 0, kind, fields, [deed, ("nosuch",)])
                self.refused_at(hall, 3, kind, fields, [("sweep", "bob"), ("cancel", 2), ("sweep", "dan"), deed])

    def test_at_each_place(self):
        deeds = [
            ("tell", buy("dan", 5, 95)), ("change", 0, None, 2), ("change", 0, 91, 4), ("sweep", "bob"),
            ("phase", "tin", OPEN), ("tell", buy("ann", 3, 103, "tin")), ("phase", "gold", CALL), ("cancel", 0),
        ]
        for place in range(len(deeds) + 1):
            hall = start()
            told = deeds[:place] + [("cancel", 77)] + deeds[place:]
            self.refused_at(hall, place, NoOrder, {"number": 77}, told)
            # The hall goes on as one to which none had been told.
            one = start()
            for deed in deeds:
                self.tells(hall.do(deed), one.do(deed))
                self.assertEqual(parts_of(hall, ("gold", "tin")), parts_of(one, ("gold", "tin")))

    def test_what_an_earlier_deed_made_so(self):
        hall = start()
        self.refused_at(hall, 1, NoOrder, {"number": 0}, [("cancel", 0), ("cancel", 0)])
        self.refused_at(hall, 1, Shut, {"name": "gold"}, [("phase", "gold", SHUT), ("change", 0, 91, None)])
        self.refused_at(hall, 2, OverReach, {"owner": "dan"}, [
            ("tell", buy("dan", 30, 50)), ("cancel", 0), ("tell", buy("dan", 21, 50)),
        ])
        self.tells(hall.several([("tell", buy("dan", 30, 50)), ("cancel", 4), ("tell", buy("dan", 50, 50))]), [
            ("taken", 4), ("rests", 4, 30), ("off", 4, 30, "cancel"), ("taken", 5), ("rests", 5, 50),
        ])

    def test_none_of_a_part_stays(self):
        # What an earlier deed traded, woke, opened and halted is as it was.
        hall = hall_of(
            sell("bob", 5, 103), sell("bob", 5, 104), buy("cid", 4, 104, stop=103), things=(("gold", 100, 3, "rank"),),
        )
        hall.tell(buy("dan", 5, 90, shown=1))
        deeds = [("tell", buy("ann", 5, 103)), ("phase", "gold", OPEN), ("change", 3, 95, 9), ("sweep", "bob")]
        one = hall_of(
            sell("bob", 5, 103), sell("bob", 5, 104), buy("cid", 4, 104, stop=103), things=(("gold", 100, 3, "rank"),),
        )
        one.tell(buy("dan", 5, 90, shown=1))
        self.refused_at(hall, 4, NoOrder, {"number": 99}, deeds + [("cancel", 99)])
        self.tells(hall.several(deeds), one.several(deeds))
        self.assertEqual(parts_of(hall), parts_of(one))

    def test_against_plain_lists(self):
        for seed in range(60):
            chance = random.Random(seed)
            things = some_things(chance)
            hall, plain = Hall(things, reach=80), PlainHall(things, reach=80)
            deeds = some_deeds(seed, 40, wrong=0.02)
            while deeds:
                many = chance.randint(1, 6)
                told = []
                for one in (hall, plain):
                    try:
                        told.append(one.several(deeds[:many]))
                    except HallError as why:
                        told.append((type(why), vars(why)))
                self.tells(told[0], told[1])
                self.assertEqual(hall.picture(), plain.picture())
                deeds = deeds[many:]


class Foretold(HallCase):
    def check(self, hall, one, order):
        """Checks against telling it to a hall alike, twice."""
        ahead = parts_of(hall, ("gold", "tin"))
        told = [hall.foretold(order) for _ in range(2)]
        events = one.tell(order)
        for foretold in told:
            self.tells(foretold, events)
        self.assertEqual(parts_of(hall, ("gold", "tin")), ahead)
        return told

    def test_each_way(self):
        for order in (
            buy("dan", 5, 95), buy("dan", 3, 96, life="only"), buy("dan", 4, life="now"), buy("dan", 40, life="now"),
            buy("dan", 40, life="whole"), buy("dan", 10, life="whole"), buy("dan", 4, 50, stop=200),
            buy("bob", 4, 100, guard="less"), sell("dan", 10, 80, shown=2), sell("ann", 4, 80, guard="both"),
        ):
            self.check(start(), start(), order)

    def test_in_a_call_and_with_a_halt(self):
        hall, one = start(), start()
        for each in (hall, one):
            each.phase("tin", CALL)
            each.tell(sell("bob", 5, 104, "tin"))
        self.check(hall, one, buy("dan", 5, 95, "tin"))
        hall, one = start(), start()
        for each in (hall, one):
            each.phase("tin", OPEN)
            each.tell(sell("bob", 5, 104, "tin"))
        told = self.check(hall, one, buy("dan", 5, 105, "tin"))
        self.tells(told[0], [("taken", 5), ("halt", "tin"), ("rests", 5, 5)])

    def test_refusals(self):
        hall = start()
        self.refused(hall, NoThing, ("name", "lead"), hall.foretold, buy("ann", 500, 90, "lead"))
        self.refused(hall, Shut, ("name", "tin"), hall.foretold, buy("ann", 500, 90, "tin"))
        self.refused(hall, OverReach, ("owner", "ann"), hall.foretold, buy("ann", 42, 90))
        self.tells(hall.foretold(order=buy("ann", 41, 50)), [("taken", 4), ("rests", 4, 41)])

    def test_the_told_list_and_the_order(self):
        hall = start()
        order = buy("dan", 5, 95)
        told = hall.foretold(order)
        told.clear()
        self.assertEqual(order, buy("dan", 5, 95))
        self.tells(hall.foretold(order), hall.tell(order))

    def test_against_plain_lists(self):
        for seed in range(60):
            chance = random.Random(seed)
            things = some_things(chance)
            hall, plain = Hall(things, reach=80), PlainHall(things, reach=80)
            for deed in some_deeds(seed, 40):
                told = []
                order = some_order(chance)
                for one in (hall, plain):
                    try:
                        told.append(one.foretold(order))
                    except HallError as why:
                        told.append(refusal(why))
                self.tells(told[0], told[1])
                self.assertEqual(hall.picture(), plain.picture())
                for one in (hall, plain):
                    try:
                        one.do(deed)
                    except HallError:
                        pass


class Together(HallCase):
    def test_pairs_of_deeds(self):
        deeds = [
            ("tell", buy("dan", 5, 95)), ("cancel", 0), ("sweep", "bob"), ("change", 0, 95, None),
            ("phase", "gold", CALL), ("phase", "tin", OPEN), ("cancel", 50), ("tell", buy("ann", 1, 1, "lead")),
        ]
        for pair in itertools.product(deeds, repeat=2):
            hall, one = start(), start()
            try:
                events = one.do(pair[0]) + one.do(pair[1])
            except HallError:
                with self.assertRaises(Refused):
                    hall.several(list(pair))
                self.assertEqual(hall.picture(), start().picture())
                continue
            self.tells(hall.several(list(pair)), events)
            self.assertEqual(hall.picture(), one.picture())


if __name__ == "__main__":
    unittest.main()
