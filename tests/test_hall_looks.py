"""Points 2, 18 and 19: pictures, halls alike, sight, cost, and all that a hall tells of itself."""

import random
import unittest

from anything import ANYTHING, alike
from hallcase import HallCase, buy, hall_of, parts_of, sell
from madedeeds import some_deeds, some_things
from ringhall.book import Book
from ringhall.errors import HallError, NoThing
from ringhall.hall import Hall
from ringhall.orders import Order, listed
from ringhall.words import BUY, CALL, OPEN, SELL, SHUT

FOUR = (
    ("gold", 100, None, "rank"), ("tin", 7, 3, "share"), ("a", 1, 0, "rank"), ("zzzzzzzz", 1000000, 1000000, "share"),
)
SHARED = (("gold", 100, None, "share"),)
BANDED = (("gold", 100, 3, "rank"),)


class Picture(HallCase):
    def test_at_first(self):
        self.assertEqual(hall_of().picture(), "reach 1000000000000\nthing gold 100 - rank open 100 100\nnext 0 0")
        told = [
            "reach 0", "thing gold 100 - rank open 100 100", "thing tin 7 3 share open 7 7",
            "thing a 1 0 rank open 1 1", "thing zzzzzzzz 1000000 1000000 share open 1000000 1000000", "next 0 0",
        ]
        self.assertEqual(hall_of(things=FOUR, reach=0).picture().split("\n"), told)

    def test_orders_and_owners(self):
        hall = hall_of(
            buy("dan", 40, 90, shown=6, guard="less"), sell("bob", 5, 9, "tin", life="only"), sell("cid", 20, 95),
            buy("ann", 7, 96), buy("eve", 5, stop=200, life="now"), sell("eve", 7, 50, stop=50, shown=3, guard="both"),
            sell("bob", 3, 90), sell("ann", 2, 99, stop=100, guard="new"), buy("bob", 1, stop=99, life="whole"),
            buy("ann", 1, 8, "tin", stop=8, guard="old"), things=FOUR, reach=60,
        )
        told = [
            "reach 60", "thing gold 100 - rank open 95 100", "thing tin 7 3 share open 7 7",
            "thing a 1 0 rank open 1 1", "thing zzzzzzzz 1000000 1000000 share open 1000000 1000000", "next 10 4",
            "order 0 dan gold buy 90 6 - rest less 37 3 0",
            "order 1 bob tin sell 9 - - only old 5 5 1",
            "order 2 cid gold sell 95 - - rest old 13 13 2",
            "order 4 eve gold buy - - 200 now old 5 - -",
            "order 5 eve gold sell 50 3 50 rest both 7 - -",
            "order 7 ann gold sell 99 - 100 rest new 2 2 3",
            "order 8 bob gold buy - - 99 whole old 1 - -",
            "order 9 ann tin buy 8 - 8 rest old 1 - -",
            "owner ann -665 gold 7", "owner bob 270 gold -3", "owner cid 665 gold -7", "owner dan -270 gold 3",
        ]
        # Of these 6 met the buy of 0 at 90, so 8's stop of 99 is not reached by the last price.
        told[1] = "thing gold 100 - rank open 90 100"
        self.assertEqual(hall.picture().split("\n"), told)

    def test_phases_last_and_anchor(self):
        hall = hall_of(things=FOUR)
        hall.phase("gold", CALL)
        hall.phase("tin", SHUT)
        hall.phase("a", CALL)
        hall.tell(buy("ann", 1, 5, "a"))
        hall.tell(sell("ann", 1, 5, "a"))
        hall.phase("a", OPEN)
        told = hall.picture().split("\n")[1:4]
        self.assertEqual(told, [
            "thing gold 100 - rank call 100 100", "thing tin 7 3 share shut 7 7", "thing a 1 0 rank open 5 5",
        ])

    def test_numbers_by_number(self):
        hall = hall_of(*[buy("ann", 1, 90 - at) for at in range(12)])
        hall.cancel(3)
        lines = [line.split(" ")[1] for line in hall.picture().split("\n") if line.startswith("order ")]
        self.assertEqual(lines, ["0", "1", "2", "4", "5", "6", "7", "8", "9", "10", "11"])

    def test_owners_by_name_and_things_by_name(self):
        hall = hall_of(things=FOUR)
        for name, price in (("zzzzzzzz", 1), ("tin", 7), ("a", 1)):
            hall.tell(sell("zoe", 2, price, name))
            hall.tell(buy("ab", 2, price, name))
        hall.tell(sell("b", 2, 50))
        hall.tell(buy("aa", 2, 50))
        self.assertEqual(hall.picture().split("\n")[6:], [
            "owner aa -100 gold 2", "owner ab -18 a 2 tin 2 zzzzzzzz 2", "owner b 100 gold -2",
            "owner zoe 18 a -2 tin -2 zzzzzzzz -2",
        ])

    def test_an_owner_of_nothing_again(self):
        hall = hall_of(sell("bob", 2, 50), buy("ann", 2, 50))
        self.assertEqual(hall.picture().split("\n")[3:], ["owner ann -100 gold 2", "owner bob 100 gold -2"])
        hall.tell(buy("bob", 2, 50))
        hall.tell(sell("ann", 2, 50))
        self.assertEqual(hall.picture().split("\n")[3:], [])
        hall.tell(sell("bob", 1, 50))
        hall.tell(buy("bob", 1, 50))
        told = ["next 6 4", "order 5 bob gold buy 50 - - rest old 1 1 3"]
        self.assertEqual(hall.picture().split("\n")[2:], told)

    def test_cash_without_a_holding(self):
        hall = hall_of(sell("bob", 2, 50), buy("ann", 2, 50), buy("bob", 2, 40), sell("ann", 2, 40))
        self.assertEqual(hall.picture().split("\n")[3:], ["owner ann -20", "owner bob 20"])

    def test_a_holding_without_cash(self):
        hall = hall_of(
            sell("bob", 4, 50), buy("ann", 4, 50), buy("bob", 2, 100), sell("ann", 2, 100),
        )
        self.assertEqual(hall.picture().split("\n")[3:], ["owner ann 0 gold 2", "owner bob 0 gold -2"])


PARTS = [
    hall_of(), hall_of(reach=5), hall_of(things=FOUR), hall_of(things=FOUR[:2]), hall_of(things=FOUR[1::-1]),
    hall_of(things=SHARED), hall_of(things=BANDED), hall_of(things=(("gold", 101, None, "rank"),)),
    hall_of(things=(("golds", 100, None, "rank"),)), hall_of(buy("ann", 5, 90)), hall_of(buy("bob", 5, 90)),
    hall_of(sell("ann", 5, 90)), hall_of(buy("ann", 6, 90)), hall_of(buy("ann", 5, 91)),
    hall_of(buy("ann", 5, 90, shown=5)), hall_of(buy("ann", 5, 90, shown=1)), hall_of(buy("ann", 5, 90, stop=100)),
    hall_of(buy("ann", 5, 90, stop=99)), hall_of(buy("ann", 5, 90, stop=101)), hall_of(buy("ann", 5, 90, life="only")),
    hall_of(buy("ann", 5, 90, guard="new")), hall_of(buy("ann", 5, life="now")),
    hall_of(buy("ann", 5, 90), buy("ann", 5, 90)), hall_of(buy("ann", 5, 90), sell("bob", 5, 90)),
]


class Alike(HallCase):
    def test_alike_and_unlike(self):
        for at, hall in enumerate(PARTS):
            for place, other in enumerate(PARTS):
                self.assertIs(hall == other, at == place, (at, place))
                self.assertIs(hall != other, at != place)

    def test_by_how_it_goes_on_not_by_how_it_came(self):
        one = hall_of(buy("ann", 5, 90), buy("bob", 3, 80))
        other = hall_of(buy("ann", 9, 90), buy("bob", 3, 80))
        self.assertIs(one == other, False)
        other.change(0, amount=5)
        self.assertIs(one == other, True)
        self.assertIs(one != other, False)
        one.cancel(1)
        self.assertIs(one == other, False)
        other.sweep("bob")
        self.assertIs(one == other, True)

    def test_phases(self):
        one, other = hall_of(), hall_of()
        one.phase("gold", CALL)
        self.assertIs(one == other, False)
        other.phase("gold", CALL)
        self.assertIs(one == other, True)
        other.phase("gold", SHUT)
        self.assertIs(one == other, False)

    def test_another_kind(self):
        hall = hall_of()
        for other in ANYTHING + [hall.picture(), Book(), Order("ann", "gold", BUY, 5, price=9), object(), {}, set()]:
            self.assertIs(hall == other, False)
            self.assertIs(other == hall, False)
            self.assertIs(hall != other, True)
            self.assertIs(other != hall, True)

    def test_itself(self):
        hall = hall_of(buy("ann", 5, 90))
        self.assertIs(hall == hall, True)
        self.assertIs(hall != hall, False)


class Sight(HallCase):
    def test_levels(self):
        orders = [
            buy("ann", 9, 90, shown=2), buy("bob", 5, 90), buy("cid", 5, 91, shown=4), sell("ann", 3, 100),
            sell("bob", 40, 99, shown=2), sell("bob", 1, 1000), buy("dan", 7, 10, stop=200),
        ]
        for things in (SHARED, BANDED, (("gold", 100, None, "rank"),)):
            hall = hall_of(*orders, things=things)
            told = ([(91, 4, 1), (90, 7, 2)], [(99, 2, 1), (100, 3, 1), (1000, 1, 1)])
            for phase in (OPEN, CALL, SHUT):
                if phase != OPEN:
                    hall.phase("gold", phase)
                self.assertTrue(alike(hall.sight("gold"), told))
                self.assertTrue(alike(hall.sight(thing="gold"), told))

    def test_crossed_in_a_call(self):
        hall = hall_of(buy("ann", 9, 90))
        hall.phase("gold", CALL)
        hall.tell(sell("bob", 9, 80, shown=3))
        self.assertEqual(hall.sight("gold"), ([(90, 9, 1)], [(80, 3, 1)]))


class Cost(HallCase):
    ORDERS = [
        buy("ann", 9, 90, shown=2), buy("bob", 5, 90), buy("cid", 5, 91, shown=4), sell("ann", 3, 100),
        sell("bob", 6, 99, shown=2), sell("bob", 1, 1000), buy("dan", 7, 10, stop=200),
    ]

    def test_money(self):
        for things in (SHARED, BANDED, (("gold", 100, None, "rank"),)):
            hall = hall_of(*self.ORDERS, things=things)
            for phase in (OPEN, CALL, SHUT):
                if phase != OPEN:
                    hall.phase("gold", phase)
                for side, amount, told in (
                    (BUY, 1, (1, 99)), (BUY, 6, (6, 594)), (BUY, 7, (7, 694)), (BUY, 9, (9, 894)),
                    (BUY, 10, (10, 1894)), (BUY, 11, (10, 1894)), (BUY, 1000000000, (10, 1894)),
                    (SELL, 5, (5, 455)), (SELL, 6, (6, 545)), (SELL, 19, (19, 1715)), (SELL, 20, (19, 1715)),
                ):
                    self.assertTrue(alike(hall.cost("gold", side, amount), told), (side, amount))
                    self.assertTrue(alike(hall.cost(amount=amount, side=side, thing="gold"), told))

    def test_as_a_stranger_trades(self):
        for rule in ("rank", "share"):
            hall = hall_of(*self.ORDERS, things=(("gold", 100, None, rule),))
            for side in (BUY, SELL):
                for amount in range(1, 25):
                    events = hall.foretold(Order("stranger", "gold", side, amount, life="now"))
                    trades = [event for event in events if event[0] == "trade"]
                    told = (sum(event[4] for event in trades), sum(event[3] * event[4] for event in trades))
                    self.assertEqual(hall.cost("gold", side, amount), told)

    def test_crossed_in_a_call(self):
        hall = hall_of(buy("ann", 9, 90))
        hall.phase("gold", CALL)
        hall.tell(sell("bob", 4, 80, shown=3))
        self.assertEqual(hall.cost("gold", BUY, 5), (4, 320))
        self.assertEqual(hall.cost("gold", SELL, 5), (5, 450))

    def test_nothing_is_changed(self):
        hall = hall_of(*self.ORDERS)
        ahead = hall.picture()
        hall.cost("gold", BUY, 1000)
        hall.cost("gold", SELL, 1000)
        hall.sight("gold")
        self.assertEqual(hall.picture(), ahead)


class Looks(HallCase):
    def test_no_thing(self):
        hall = hall_of(buy("ann", 5, 90))
        for name in ("lead", "", "Gold", "ann", "gold ", "goldgoldgold"):
            for look in (hall.standing, hall.waiting, hall.phase_of, hall.last, hall.anchor, hall.sight):
                self.refused(hall, NoThing, ("name", name), look, name)
                self.refused(hall, NoThing, ("name", name), look, thing=name)
            self.refused(hall, NoThing, ("name", name), hall.holding, "ann", name)
            self.refused(hall, NoThing, ("name", name), hall.holding, "zoe", name)
            self.refused(hall, NoThing, ("name", name), hall.cost, name, BUY, 5)

    def test_any_owner(self):
        hall = hall_of(sell("bob", 5, 90), buy("ann", 5, 90))
        for owner in ("zoe", "", "Ann", "gold", "no name at all"):
            self.assertTrue(alike(hall.cash(owner), 0))
            self.assertTrue(alike(hall.holding(owner, "gold"), 0))
        self.assertEqual((hall.cash(owner="ann"), hall.holding(thing="gold", owner="ann")), (-450, 5))

    def test_len(self):
        hall = hall_of(buy("ann", 5, 90), buy("ann", 5, 90, stop=105), sell("bob", 2, 7, "tin"), things=FOUR)
        self.assertEqual(len(hall), 3)
        hall.cancel(1)
        self.assertEqual(len(hall), 2)
        hall.tell(sell("bob", 5, 90))
        self.assertEqual(len(hall), 1)

    def test_standing_and_waiting_of_one_thing(self):
        hall = hall_of(
            buy("ann", 5, 90), buy("ann", 5, 6, "tin"), buy("bob", 5, 90, stop=105), buy("bob", 5, 90, "tin", stop=105),
            sell("cid", 5, 95), sell("cid", 5, 94, stop=50), buy("cid", 5, 91, stop=102), things=FOUR,
        )
        self.assertEqual([row[0] for row in hall.standing("gold")], [0, 4])
        self.assertEqual([row[0] for row in hall.standing("tin")], [1])
        self.assertEqual((hall.waiting("gold"), hall.waiting("tin"), hall.waiting("a")), ([2, 5, 6], [3], []))

    def test_told_lists_are_the_askers_own(self):
        hall = hall_of(buy("ann", 5, 90), buy("bob", 5, 90, stop=105), sell("bob", 5, 95), things=SHARED)
        ahead = parts_of(hall)
        for look in (hall.standing, hall.waiting):
            self.assertIsNot(look("gold"), look("gold"))
            look("gold").clear()
        for side in hall.sight("gold"):
            side.append(None)
        self.assertIsNot(hall.sight("gold")[0], hall.sight("gold")[0])
        self.assertEqual(parts_of(hall), ahead)

    def test_looks_change_nothing(self):
        for seed in range(10):
            things = some_things(random.Random(seed))
            hall = Hall(things)
            for deed in some_deeds(seed, 30):
                try:
                    hall.do(deed)
                except HallError:
                    pass
                ahead = hall.picture()
                self.assertEqual(parts_of(hall, ("gold", "tin")), parts_of(hall, ("gold", "tin")))
                self.assertEqual(hall.picture(), ahead)


class Beside(HallCase):
    def test_two_halls(self):
        things = [listed("gold", 100), listed("tin", 7)]
        one, other = Hall(things), Hall(things)
        one.tell(buy("ann", 5, 90))
        one.phase("tin", SHUT)
        self.assertEqual(other.picture(), Hall(things).picture())
        self.tells(other.tell(sell("bob", 5, 90)), [("taken", 0), ("rests", 0, 5)])
        self.assertEqual((len(one), len(other)), (1, 1))
        self.tells(one.tell(sell("bob", 5, 90)), [("taken", 1), ("trade", 0, 1, 90, 5)])
        self.assertEqual((one.cash("bob"), other.cash("bob")), (450, 0))


if __name__ == "__main__":
    unittest.main()
