"""Points 13 and 14: a hall's things, and how an order is told, waits, comes, stands and wakes others."""

import itertools
import unittest

from hallcase import HallCase, buy, hall_of, sell
from ringhall.errors import NoThing, OverReach, Shut
from ringhall.hall import Hall
from ringhall.orders import Order, listed
from ringhall.words import BUY, CALL, OPEN, REACH, SELL, SHUT

FOUR = (("gold", 100, None, "rank"), ("tin", 7, 3, "share"), ("lead", 1, 0, "rank"), ("zinc", 1000000, None, "share"))
BANDED = (("gold", 100, 3, "rank"),)
SHARED = (("gold", 100, None, "share"),)


class AtFirst(HallCase):
    def test_things(self):
        hall = hall_of(things=FOUR)
        for name, start, band, rule in FOUR:
            self.assertEqual(hall.phase_of(name), OPEN)
            self.assertEqual(hall.last(name), start)
            self.assertEqual(hall.anchor(name), start)
            self.assertEqual(hall.standing(name), [])
            self.assertEqual(hall.waiting(name), [])
            self.assertEqual(hall.sight(name), ([], []))
            self.assertEqual(hall.cost(name, BUY, 5), (0, 0))
            self.assertEqual(hall.holding("ann", name), 0)
        self.assertEqual(hall.cash("ann"), 0)
        self.assertEqual(len(hall), 0)

    def test_the_list_of_things_is_not_kept(self):
        things = [listed("gold", 100), listed("tin", 5)]
        hall = Hall(things)
        things.pop()
        things.append(listed("lead", 9))
        self.assertEqual(hall.phase_of("tin"), OPEN)
        with self.assertRaises(NoThing):
            hall.phase_of("lead")
        hall.tell(buy("ann", 5, 9))
        self.assertEqual(things, [("gold", 100, None, "rank"), ("lead", 9, None, "rank")])

    def test_the_usual_reach(self):
        self.assertEqual(hall_of().picture().split("\n")[0], f"reach {REACH}")
        self.assertEqual(hall_of(reach=0).picture().split("\n")[0], "reach 0")
        self.assertEqual(Hall(reach=9, things=[listed("gold", 100)]).picture().split("\n")[0], "reach 9")


class Taken(HallCase):
    def test_numbers_and_ranks(self):
        hall = hall_of(things=FOUR)
        self.tells(hall.tell(buy("ann", 5, 90)), [("taken", 0), ("rests", 0, 5)])
        self.tells(hall.tell(sell("bob", 5, 9, "tin")), [("taken", 1), ("rests", 1, 5)])
        self.tells(hall.tell(buy("ann", 5, 91, stop=101)), [("taken", 2), ("waits", 2)])
        self.tells(hall.tell(buy("ann", 6, 90, shown=2)), [("taken", 3), ("rests", 3, 2)])
        self.tells(hall.tell(buy("ann", 6, life="now")), [("taken", 4), ("off", 4, 6, "now")])
        self.tells(hall.tell(sell("cid", 1, 95)), [("taken", 5), ("rests", 5, 1)])
        # Ranks are the whole hall's, and only what stands gets one.
        self.stands(hall, (0, 90, 5, 5, 0), (3, 90, 6, 2, 2), (5, 95, 1, 1, 3))
        self.stands(hall, (1, 9, 5, 5, 1), thing="tin")
        self.assertEqual(hall.waiting("gold"), [2])
        self.assertEqual(len(hall), 5)
        self.assertEqual(hall.picture().split("\n")[5], "next 6 4")

    def test_what_is_refused_takes_no_number(self):
        hall = hall_of(reach=10)
        self.refused(hall, OverReach, ("owner", "ann"), hall.tell, buy("ann", 11, 90))
        self.refused(hall, NoThing, ("name", "lead"), hall.tell, buy("ann", 1, 90, "lead"))
        self.tells(hall.tell(buy("ann", 10, 90)), [("taken", 0), ("rests", 0, 10)])

    def test_the_order_handed_in_stays_and_is_not_kept(self):
        hall = hall_of()
        order = buy("ann", 9, 90, shown=3)
        hall.tell(order)
        self.assertEqual(order, buy("ann", 9, 90, shown=3))
        order.owner, order.price, order.amount, order.shown, order.side = "bob", 95, 5, None, SELL
        self.assertEqual(hall.standing("gold"), [(0, "ann", BUY, 90, 3, 9, 3, 0)])
        self.tells(hall.tell(sell("cid", 4, 90)), [
            ("taken", 1), ("trade", 0, 1, 90, 3), ("shown", 0, 3), ("trade", 0, 1, 90, 1),
        ])

    def test_one_order_told_twice(self):
        hall = hall_of()
        order = buy("ann", 9, 90)
        self.tells(hall.tell(order), [("taken", 0), ("rests", 0, 9)])
        self.tells(hall.tell(order=order), [("taken", 1), ("rests", 1, 9)])
        self.assertEqual(len(hall), 2)

    def test_told_events_are_the_askers_own(self):
        hall = hall_of()
        told = hall.tell(buy("ann", 9, 90))
        told.append(None)
        told[0] = 5
        self.tells(hall.tell(buy("ann", 9, 90)), [("taken", 1), ("rests", 1, 9)])


class Refusals(HallCase):
    def test_no_thing_goes_ahead(self):
        hall = hall_of(reach=0)
        hall.phase("gold", SHUT)
        self.refused(hall, NoThing, ("name", "lead"), hall.tell, buy("ann", 5, 90, "lead"))

    def test_shut_goes_ahead_of_the_reach(self):
        hall = hall_of(buy("ann", 1, 50), reach=5)
        hall.phase("gold", SHUT)
        self.refused(hall, Shut, ("name", "gold"), hall.tell, buy("ann", 9, 90))
        self.refused(hall, Shut, ("name", "gold"), hall.tell, buy("ann", 1, 90))
        hall.phase("gold", OPEN)
        self.refused(hall, OverReach, ("owner", "ann"), hall.tell, buy("ann", 9, 90))

    def test_another_thing_that_is_shut_does_not_matter(self):
        hall = hall_of(things=FOUR)
        hall.phase("tin", SHUT)
        self.tells(hall.tell(buy("ann", 5, 90)), [("taken", 0), ("rests", 0, 5)])
        self.refused(hall, Shut, ("name", "tin"), hall.tell, buy("ann", 5, 9, "tin"))


class Reach(HallCase):
    def test_buys_that_stand(self):
        hall = hall_of(buy("ann", 6, 90), reach=10)
        self.refused(hall, OverReach, ("owner", "ann"), hall.tell, buy("ann", 5, 80))
        hall.tell(buy("ann", 4, 80))
        self.refused(hall, OverReach, ("owner", "ann"), hall.tell, buy("ann", 1, 80))
        hall.tell(buy("bob", 10, 80))

    def test_sells_that_stand(self):
        hall = hall_of(sell("ann", 6, 90), reach=10)
        self.refused(hall, OverReach, ("owner", "ann"), hall.tell, sell("ann", 5, 95))
        hall.tell(sell("ann", 4, 95))
        self.refused(hall, OverReach, ("owner", "ann"), hall.tell, sell("ann", 1, 95))
        hall.tell(sell("bob", 10, 95))

    def test_what_is_hidden_and_what_waits_counts(self):
        hall = hall_of(buy("ann", 4, 90, shown=1), buy("ann", 3, 90, stop=200), reach=10)
        self.refused(hall, OverReach, ("owner", "ann"), hall.tell, buy("ann", 4, 80))
        hall.tell(buy("ann", 3, 80, stop=300))
        self.refused(hall, OverReach, ("owner", "ann"), hall.tell, buy("ann", 1, 80))

    def test_buys_and_sells_apart(self):
        hall = hall_of(buy("ann", 10, 90), sell("ann", 10, 95), reach=10)
        self.refused(hall, OverReach, ("owner", "ann"), hall.tell, buy("ann", 1, 80))
        self.refused(hall, OverReach, ("owner", "ann"), hall.tell, sell("ann", 1, 95))

    def test_things_apart(self):
        things = (("gold", 100, None, "rank"), ("tin", 100, None, "rank"))
        hall = hall_of(buy("ann", 10, 90), buy("ann", 10, 90, "tin"), things=things, reach=10)
        self.refused(hall, OverReach, ("owner", "ann"), hall.tell, buy("ann", 1, 80, "tin"))

    def test_what_is_had(self):
        hall = hall_of(buy("ann", 6, 90), sell("bob", 6, 90), reach=10)
        self.assertEqual(hall.holding("ann", "gold"), 6)
        self.refused(hall, OverReach, ("owner", "ann"), hall.tell, buy("ann", 5, 80))
        self.refused(hall, OverReach, ("owner", "bob"), hall.tell, sell("bob", 5, 95))
        self.refused(hall, OverReach, ("owner", "ann"), hall.tell, sell("ann", 17, 95))
        self.refused(hall, OverReach, ("owner", "bob"), hall.tell, buy("bob", 17, 80))
        self.tells(hall.tell(sell("ann", 16, 95)), [("taken", 2), ("rests", 2, 16)])
        self.tells(hall.tell(buy("bob", 16, 80)), [("taken", 3), ("rests", 3, 16)])
        hall.tell(buy("ann", 4, 80))
        hall.tell(sell("bob", 4, 96))

    def test_what_comes_at_once(self):
        hall = hall_of(sell("bob", 5, 90), reach=5)
        # An order that would be off at once is over the reach all the same.
        for life in ("now", "whole"):
            self.refused(hall, OverReach, ("owner", "ann"), hall.tell, buy("ann", 6, life=life))
        self.tells(hall.tell(buy("ann", 5, life="now")), [("taken", 1), ("trade", 1, 0, 90, 5)])
        self.refused(hall, OverReach, ("owner", "ann"), hall.tell, buy("ann", 1, life="now"))
        self.refused(hall, OverReach, ("owner", "bob"), hall.tell, sell("bob", 1, 95))

    def test_what_is_off_is_free_again(self):
        hall = hall_of(buy("ann", 6, 90), buy("ann", 4, 80, stop=200), reach=10)
        hall.cancel(1)
        hall.tell(buy("ann", 4, 70))
        hall.sweep("ann")
        hall.tell(buy("ann", 10, 90))
        hall.change(3, amount=3)
        hall.tell(buy("ann", 7, 80))
        self.refused(hall, OverReach, ("owner", "ann"), hall.tell, buy("ann", 1, 80))

    def test_by_guards_too(self):
        hall = hall_of(buy("ann", 6, 90), buy("ann", 4, 80), reach=10)
        self.tells(hall.tell(sell("ann", 3, 90)), [("taken", 2), ("off", 0, 6, "guard"), ("rests", 2, 3)])
        self.refused(hall, OverReach, ("owner", "ann"), hall.tell, buy("ann", 7, 70))
        hall.tell(buy("ann", 6, 70))
        self.refused(hall, OverReach, ("owner", "ann"), hall.tell, sell("ann", 8, 95))
        hall.tell(sell("ann", 7, 95))
        hall = hall_of(buy("ann", 6, 90), buy("ann", 4, 80), reach=10)
        self.tells(hall.tell(sell("ann", 10, 85, guard="less")), [("taken", 2), ("less", 0, 2, 6), ("rests", 2, 4)])
        self.refused(hall, OverReach, ("owner", "ann"), hall.tell, buy("ann", 7, 70))
        hall.tell(buy("ann", 6, 70))
        self.refused(hall, OverReach, ("owner", "ann"), hall.tell, sell("ann", 7, 95))
        hall.tell(sell("ann", 6, 95))

    def test_no_reach_at_all(self):
        hall = hall_of(reach=0)
        self.refused(hall, OverReach, ("owner", "ann"), hall.tell, buy("ann", 1, 90))
        self.refused(hall, OverReach, ("owner", "ann"), hall.tell, sell("ann", 1, 90))

    def test_the_usual_reach(self):
        hall = hall_of()
        for _ in range(1000):
            hall.tell(buy("ann", 1000000000, 1))
        self.refused(hall, OverReach, ("owner", "ann"), hall.tell, buy("ann", 1, 1))
        hall.change(0, amount=999999999)
        hall.tell(buy("ann", 1, 1))


class InACall(HallCase):
    def test_lives(self):
        hall = hall_of(sell("bob", 5, 90))
        hall.phase("gold", CALL)
        self.tells(hall.tell(buy("ann", 7, 95)), [("taken", 1), ("rests", 1, 7)])
        self.tells(hall.tell(buy("ann", 7, 95, life="only", shown=2)), [("taken", 2), ("rests", 2, 2)])
        self.tells(hall.tell(buy("ann", 7, 95, life="now")), [("taken", 3), ("off", 3, 7, "now")])
        self.tells(hall.tell(buy("ann", 7, life="whole")), [("taken", 4), ("off", 4, 7, "whole")])
        self.stands(hall, (1, 95, 7, 7, 1), (2, 95, 7, 2, 2), (0, 90, 5, 5, 0))

    def test_any_stop_waits(self):
        hall = hall_of()
        hall.phase("gold", CALL)
        for number, (side, stop) in enumerate(itertools.product((BUY, SELL), (1, 99, 100, 101, 1000000))):
            for life in ("now",):
                order = Order("ann", "gold", side, 5, stop=stop, life=life)
                self.tells(hall.tell(order), [("taken", number), ("waits", number)])
        self.assertEqual(hall.waiting("gold"), list(range(10)))
        self.assertEqual(hall.standing("gold"), [])

    def test_guards_are_not_asked(self):
        hall = hall_of(sell("ann", 5, 90))
        hall.phase("gold", CALL)
        for number, guard in enumerate(("old", "new", "both", "less"), 1):
            self.tells(hall.tell(buy("ann", 5, 95, guard=guard)), [("taken", number), ("rests", number, 5)])
        self.assertEqual(len(hall), 5)


class Stops(HallCase):
    def test_a_buys_stop(self):
        for stop, waits in ((1, False), (99, False), (100, False), (101, True), (1000000, True)):
            hall = hall_of()
            told = [("taken", 0), ("waits", 0)] if waits else [("taken", 0), ("rests", 0, 5)]
            self.tells(hall.tell(buy("ann", 5, 90, stop=stop)), told)
            self.assertEqual(hall.waiting("gold"), [0] if waits else [])
            self.assertEqual(len(hall.standing("gold")), 0 if waits else 1)

    def test_a_sells_stop(self):
        for stop, waits in ((1, True), (99, True), (100, False), (101, False), (1000000, False)):
            hall = hall_of()
            told = [("taken", 0), ("waits", 0)] if waits else [("taken", 0), ("rests", 0, 5)]
            self.tells(hall.tell(sell("ann", 5, 110, stop=stop)), told)

    def test_by_the_last_price_not_the_start_or_the_anchor(self):
        hall = hall_of(sell("bob", 5, 103), buy("ann", 2, 103))
        self.assertEqual((hall.last("gold"), hall.anchor("gold")), (103, 100))
        self.tells(hall.tell(buy("ann", 5, 90, stop=103)), [("taken", 2), ("rests", 2, 5)])
        self.tells(hall.tell(buy("ann", 5, 90, stop=104)), [("taken", 3), ("waits", 3)])
        self.tells(hall.tell(sell("ann", 5, 110, stop=102)), [("taken", 4), ("waits", 4)])

    def test_each_life_waits(self):
        for life in ("rest", "now", "whole", "only"):
            hall = hall_of(sell("bob", 5, 95))
            self.tells(hall.tell(buy("ann", 5, 99, stop=101, life=life)), [("taken", 1), ("waits", 1)])
            self.stands(hall, (0, 95, 5, 5, 0))

    def test_a_shown_part_waits_hidden_and_gets_no_rank(self):
        hall = hall_of(buy("ann", 9, 90, shown=2, stop=105))
        self.assertEqual(hall.sight("gold"), ([], []))
        self.tells(hall.tell(buy("bob", 9, 90)), [("taken", 1), ("rests", 1, 9)])
        self.stands(hall, (1, 90, 9, 9, 0))

    def test_things_apart(self):
        things = (("gold", 100, None, "rank"), ("tin", 5, None, "rank"))
        hall = hall_of(things=things)
        self.tells(hall.tell(buy("ann", 5, 4, "tin", stop=5)), [("taken", 0), ("rests", 0, 5)])
        self.tells(hall.tell(buy("ann", 5, 4, "tin", stop=6)), [("taken", 1), ("waits", 1)])
        # A trade of another thing wakes nothing.
        hall.tell(sell("bob", 1, 90))
        self.tells(hall.tell(buy("cid", 1, 90)), [("taken", 3), ("trade", 3, 2, 90, 1)])
        self.assertEqual((hall.waiting("tin"), hall.waiting("gold")), ([1], []))


class Lives(HallCase):
    def test_only(self):
        hall = hall_of(sell("bob", 5, 100), buy("cid", 5, 90))
        self.tells(hall.tell(buy("ann", 7, 100, life="only")), [("taken", 2), ("off", 2, 7, "only")])
        self.tells(hall.tell(buy("ann", 7, 500, life="only")), [("taken", 3), ("off", 3, 7, "only")])
        self.tells(hall.tell(buy("ann", 7, 99, life="only", shown=2)), [("taken", 4), ("rests", 4, 2)])
        self.tells(hall.tell(sell("ann", 7, 99, life="only")), [("taken", 5), ("off", 5, 7, "only")])
        self.tells(hall.tell(sell("ann", 7, 100, life="only")), [("taken", 6), ("rests", 6, 7)])
        self.stands(hall, (4, 99, 7, 2, 2), (1, 90, 5, 5, 1), (0, 100, 5, 5, 0), (6, 100, 7, 7, 3))
        self.assertEqual(hall.last("gold"), 100)

    def test_only_asks_no_guard_and_no_band(self):
        hall = hall_of(sell("ann", 5, 110), things=BANDED)
        for guard in ("old", "new", "both", "less"):
            told = hall.tell(buy("ann", 7, 110, life="only", guard=guard))
            self.assertEqual(told[1][0::2], ("off", 7))
            self.assertEqual(told[1][3], "only")
        self.assertEqual(hall.phase_of("gold"), OPEN)

    def test_only_of_no_row(self):
        hall = hall_of()
        self.tells(hall.tell(buy("ann", 7, 500, life="only")), [("taken", 0), ("rests", 0, 7)])

    def test_whole(self):
        hall = hall_of(sell("bob", 5, 100, shown=2), sell("cid", 5, 102))
        self.tells(hall.tell(buy("ann", 6, 101, life="whole")), [("taken", 2), ("off", 2, 6, "whole")])
        self.tells(hall.tell(buy("ann", 11, life="whole")), [("taken", 3), ("off", 3, 11, "whole")])
        self.stands(hall, (0, 100, 5, 2, 0), (1, 102, 5, 5, 1))
        self.assertEqual(hall.picture().split("\n")[2], "next 4 2")
        told = [
            ("taken", 4), ("trade", 4, 0, 100, 2), ("shown", 0, 2), ("trade", 4, 0, 100, 2), ("shown", 0, 1),
            ("trade", 4, 0, 100, 1), ("trade", 4, 1, 102, 5),
        ]
        self.tells(hall.tell(buy("ann", 10, life="whole")), told)
        self.assertEqual(len(hall), 0)

    def test_whole_with_a_price(self):
        hall = hall_of(sell("bob", 5, 100), sell("cid", 5, 102))
        self.tells(hall.tell(buy("ann", 5, 101, life="whole")), [("taken", 2), ("trade", 2, 0, 100, 5)])
        self.tells(hall.tell(buy("ann", 5, 101, life="whole")), [("taken", 3), ("off", 3, 5, "whole")])

    def test_whole_and_guards(self):
        for guard, events in (
            ("old", [("off", 0, 5, "guard"), ("trade", 2, 1, 102, 5)]),
            ("new", [("off", 2, 5, "whole")]),
            ("both", [("off", 2, 5, "whole")]),
            ("less", [("off", 2, 5, "whole")]),
        ):
            hall = hall_of(sell("ann", 5, 100), sell("cid", 5, 102))
            self.tells(hall.tell(buy("ann", 5, life="whole", guard=guard)), [("taken", 2)] + events)

    def test_whole_and_the_band(self):
        hall = hall_of(sell("bob", 5, 103), sell("cid", 5, 104), things=BANDED)
        self.tells(hall.tell(buy("ann", 6, life="whole")), [("taken", 2), ("off", 2, 6, "whole")])
        self.assertEqual(hall.phase_of("gold"), OPEN)
        self.tells(hall.tell(buy("ann", 5, life="whole")), [("taken", 3), ("trade", 3, 0, 103, 5)])

    def test_whole_by_share(self):
        hall = hall_of(sell("bob", 5, 100), sell("cid", 5, 100), things=SHARED)
        self.tells(hall.tell(buy("ann", 11, life="whole")), [("taken", 2), ("off", 2, 11, "whole")])
        told = [("taken", 3), ("trade", 3, 0, 100, 4), ("trade", 3, 1, 100, 3)]
        self.tells(hall.tell(buy("ann", 7, life="whole")), told)

    def test_now(self):
        hall = hall_of(sell("bob", 5, 100), sell("cid", 5, 102))
        self.tells(hall.tell(buy("ann", 7, 99, life="now")), [("taken", 2), ("off", 2, 7, "now")])
        told = [("taken", 3), ("trade", 3, 0, 100, 5), ("off", 3, 2, "now")]
        self.tells(hall.tell(buy("ann", 7, 101, life="now")), told)
        self.tells(hall.tell(buy("ann", 3, life="now")), [("taken", 4), ("trade", 4, 1, 102, 3)])
        self.tells(hall.tell(buy("ann", 3, life="now")), [("taken", 5), ("trade", 5, 1, 102, 2), ("off", 5, 1, "now")])
        self.assertEqual(len(hall), 0)

    def test_rest(self):
        hall = hall_of(sell("bob", 5, 100), sell("cid", 5, 102))
        told = [("taken", 2), ("trade", 2, 0, 100, 5), ("rests", 2, 3)]
        self.tells(hall.tell(buy("ann", 13, 101, shown=3)), told)
        self.stands(hall, (2, 101, 8, 3, 2), (1, 102, 5, 5, 1))
        self.tells(hall.tell(buy("ann", 5, 102)), [("taken", 3), ("trade", 3, 1, 102, 5)])

    def test_what_is_left_is_less_than_the_shown_part(self):
        hall = hall_of(sell("bob", 5, 100))
        self.tells(hall.tell(buy("ann", 7, 101, shown=6)), [("taken", 1), ("trade", 1, 0, 100, 5), ("rests", 1, 2)])
        self.assertEqual(hall.standing("gold"), [(1, "ann", BUY, 101, 6, 2, 2, 1)])

    def test_ranks_of_what_shows_anew_and_what_stands(self):
        hall = hall_of(sell("bob", 6, 100, shown=2), sell("cid", 2, 100))
        told = [
            ("taken", 2), ("trade", 2, 0, 100, 2), ("shown", 0, 2), ("trade", 2, 1, 100, 2), ("trade", 2, 0, 100, 2),
            ("shown", 0, 2), ("trade", 2, 0, 100, 1),
        ]
        self.tells(hall.tell(buy("ann", 7, 100)), told)
        self.tells(hall.tell(buy("ann", 3, 90)), [("taken", 3), ("rests", 3, 3)])
        self.stands(hall, (3, 90, 3, 3, 4), (0, 100, 1, 1, 3))

    def test_guards_take_the_coming_one_off(self):
        for guard, events in (
            ("old", [("off", 1, 5, "guard"), ("rests", 2, 2)]),
            ("new", [("off", 2, 2, "guard")]),
            ("both", [("off", 1, 5, "guard"), ("off", 2, 2, "guard")]),
            ("less", [("less", 1, 2, 2)]),
        ):
            hall = hall_of(sell("bob", 5, 100), sell("ann", 5, 101, shown=1))
            told = [("taken", 2), ("trade", 2, 0, 100, 5)] + events
            self.tells(hall.tell(buy("ann", 7, 102, guard=guard)), told)
            left = {"old": [2], "new": [1], "both": [], "less": [1]}[guard]
            self.assertEqual([row[0] for row in hall.standing("gold")], left)
            self.assertEqual(len(hall), len(left))
        self.assertEqual(hall.standing("gold"), [(1, "ann", SELL, 101, 1, 3, 1, 1)])

    def test_accounts_move(self):
        hall = hall_of(sell("bob", 5, 100), sell("cid", 5, 102), buy("ann", 7, 103))
        self.assertEqual([hall.cash(owner) for owner in ("ann", "bob", "cid")], [-704, 500, 204])
        self.assertEqual([hall.holding(owner, "gold") for owner in ("ann", "bob", "cid")], [7, -5, -2])
        self.assertEqual(hall.last("gold"), 102)
        self.assertEqual(hall.anchor("gold"), 100)


class Halts(HallCase):
    def test_told_ahead_of_the_rest(self):
        hall = hall_of(sell("bob", 5, 103), sell("cid", 5, 104), things=BANDED)
        told = [("taken", 2), ("trade", 2, 0, 103, 5), ("halt", "gold"), ("rests", 2, 3)]
        self.tells(hall.tell(buy("ann", 8, 110)), told)
        self.assertEqual(hall.phase_of("gold"), CALL)
        self.stands(hall, (2, 110, 3, 3, 2), (1, 104, 5, 5, 1))
        self.assertEqual((hall.last("gold"), hall.anchor("gold")), (103, 100))

    def test_life_now(self):
        hall = hall_of(sell("bob", 5, 104), things=BANDED)
        self.tells(hall.tell(buy("ann", 8, life="now")), [("taken", 1), ("halt", "gold"), ("off", 1, 8, "now")])
        self.assertEqual(hall.phase_of("gold"), CALL)

    def test_sells(self):
        hall = hall_of(buy("bob", 5, 97), buy("cid", 5, 96), things=BANDED)
        told = [("taken", 2), ("trade", 0, 2, 97, 5), ("halt", "gold"), ("rests", 2, 1)]
        self.tells(hall.tell(sell("ann", 6, 50)), told)

    def test_not_where_nothing_is_left_or_let_by(self):
        hall = hall_of(sell("bob", 5, 103), sell("cid", 5, 104), things=BANDED)
        self.tells(hall.tell(buy("ann", 5, 110)), [("taken", 2), ("trade", 2, 0, 103, 5)])
        self.tells(hall.tell(buy("ann", 5, 103)), [("taken", 3), ("rests", 3, 5)])
        self.assertEqual(hall.phase_of("gold"), OPEN)

    def test_another_thing_goes_on(self):
        things = (("gold", 100, 3, "rank"), ("tin", 100, 3, "rank"))
        hall = hall_of(sell("bob", 5, 104), sell("bob", 5, 103, "tin"), things=things)
        hall.tell(buy("ann", 5, 104))
        self.tells(hall.tell(buy("ann", 5, 103, "tin")), [("taken", 3), ("trade", 3, 1, 103, 5)])

    def test_the_anchor_of_an_opening(self):
        hall = hall_of(things=BANDED)
        hall.phase("gold", CALL)
        hall.tell(sell("bob", 5, 108))
        hall.tell(buy("ann", 5, 108))
        hall.phase("gold", OPEN)
        self.assertEqual((hall.last("gold"), hall.anchor("gold")), (108, 108))
        hall.tell(sell("bob", 5, 111))
        self.tells(hall.tell(buy("ann", 5, 111)), [("taken", 3), ("trade", 3, 2, 111, 5)])
        hall.tell(buy("bob", 5, 104))
        self.tells(hall.tell(sell("ann", 5, 104)), [("taken", 5), ("halt", "gold"), ("rests", 5, 5)])

    def test_a_guard_beyond_the_band_is_not_asked(self):
        hall = hall_of(sell("ann", 5, 104), things=BANDED)
        self.tells(hall.tell(buy("ann", 5, 104)), [("taken", 1), ("halt", "gold"), ("rests", 1, 5)])
        self.assertEqual(len(hall), 2)


class Wake(HallCase):
    def test_by_a_trade(self):
        hall = hall_of(sell("bob", 5, 105), buy("cid", 3, 90, stop=105), buy("cid", 2, 91, stop=106))
        told = [("taken", 3), ("trade", 3, 0, 105, 1), ("woken", 1), ("rests", 1, 3)]
        self.tells(hall.tell(buy("ann", 1, 105)), told)
        self.assertEqual(hall.waiting("gold"), [2])
        self.stands(hall, (1, 90, 3, 3, 1), (0, 105, 4, 4, 0))

    def test_a_sell(self):
        hall = hall_of(buy("bob", 5, 95), sell("cid", 3, 110, stop=95), sell("cid", 2, 111, stop=94))
        told = [("taken", 3), ("trade", 0, 3, 95, 1), ("woken", 1), ("rests", 1, 3)]
        self.tells(hall.tell(sell("ann", 1, 95)), told)
        self.assertEqual(hall.waiting("gold"), [2])

    def test_the_least_number_first_of_both_sides(self):
        hall = hall_of(
            buy("dan", 1, 80, stop=101), sell("dan", 1, 120, stop=99), buy("dan", 2, 81, stop=104),
            sell("dan", 2, 121, stop=98), buy("dan", 3, 82, stop=102),
        )
        self.assertEqual(hall.waiting("gold"), [0, 1, 2, 3, 4])
        hall.tell(sell("bob", 1, 104))
        told = [
            ("taken", 6), ("trade", 6, 5, 104, 1),
            ("woken", 0), ("rests", 0, 1), ("woken", 2), ("rests", 2, 2), ("woken", 4), ("rests", 4, 3),
        ]
        self.tells(hall.tell(buy("ann", 1, 104)), told)
        hall.tell(buy("bob", 1, 97))
        told = [("taken", 8), ("trade", 7, 8, 97, 1), ("woken", 1), ("rests", 1, 1), ("woken", 3), ("rests", 3, 2)]
        self.tells(hall.tell(sell("ann", 1, 97)), told)
        self.assertEqual(hall.waiting("gold"), [])

    def test_the_least_number_each_time(self):
        # What 3 trades reaches 1 as well, which then goes ahead of 4.
        hall = hall_of(
            sell("bob", 1, 102), buy("dan", 1, 80, stop=103), sell("bob", 1, 103), buy("cid", 1, 103, stop=102),
            buy("dan", 2, 81, stop=102),
        )
        told = [
            ("taken", 5), ("trade", 5, 0, 102, 1), ("woken", 3), ("trade", 3, 2, 103, 1),
            ("woken", 1), ("rests", 1, 1), ("woken", 4), ("rests", 4, 2),
        ]
        self.tells(hall.tell(buy("ann", 1, 102)), told)

    def test_one_is_not_reached_any_more(self):
        hall = hall_of(buy("bob", 5, 95), sell("bob", 5, 110))
        hall.phase("gold", CALL)
        hall.tell(sell("cid", 1, stop=1000, life="now"))
        hall.tell(buy("dan", 1, 80, stop=100))
        hall.tell(buy("eve", 1, 81, stop=95))
        # At 100 all three are reached; what 2 trades at 95 is too low for 3.
        told = [
            ("phase", "gold", OPEN), ("opened", "gold", None, 0), ("woken", 2), ("trade", 0, 2, 95, 1), ("woken", 4),
            ("rests", 4, 1),
        ]
        self.tells(hall.phase("gold", OPEN), told)
        self.assertEqual(hall.waiting("gold"), [3])

    def test_chains(self):
        orders = [sell("bob", 1, price) for price in range(101, 106)]
        orders += [buy("cid", 1, stop=stop, life="now") for stop in (104, 103, 102, 101)]
        hall = hall_of(*orders)
        told = [("taken", 9), ("trade", 9, 0, 101, 1)]
        for at, number in enumerate((8, 7, 6, 5), 1):
            told += [("woken", number), ("trade", number, at, 101 + at, 1)]
        self.tells(hall.tell(buy("ann", 1, 101)), told)
        self.assertEqual(len(hall), 0)
        self.assertEqual(hall.last("gold"), 105)

    def test_each_life(self):
        for life, events in (
            ("rest", [("trade", 2, 1, 106, 2), ("rests", 2, 3)]),
            ("now", [("trade", 2, 1, 106, 2), ("off", 2, 3, "now")]),
            ("whole", [("off", 2, 5, "whole")]),
            ("only", [("off", 2, 5, "only")]),
        ):
            hall = hall_of(sell("bob", 1, 105), sell("bob", 2, 106), buy("cid", 5, 107, stop=105, life=life))
            told = [("taken", 3), ("trade", 3, 0, 105, 1), ("woken", 2)] + events
            self.tells(hall.tell(buy("ann", 1, 105)), told)
            self.assertEqual(hall.waiting("gold"), [])

    def test_a_whole_one_that_is_off_wakes_nobody_but_others_go_on(self):
        hall = hall_of(
            sell("bob", 1, 105), buy("cid", 5, stop=105, life="whole"), buy("cid", 4, 106, stop=105, life="only"),
            buy("cid", 3, stop=105, life="whole"),
        )
        told = [
            ("taken", 4), ("trade", 4, 0, 105, 1), ("woken", 1), ("off", 1, 5, "whole"), ("woken", 2), ("rests", 2, 4),
            ("woken", 3), ("off", 3, 3, "whole"),
        ]
        self.tells(hall.tell(buy("ann", 1, 105)), told)

    def test_a_guard(self):
        hall = hall_of(sell("bob", 1, 105), sell("cid", 2, 106), buy("cid", 5, 107, stop=105, guard="both"))
        told = [
            ("taken", 3), ("trade", 3, 0, 105, 1), ("woken", 2), ("off", 1, 2, "guard"), ("off", 2, 5, "guard"),
        ]
        self.tells(hall.tell(buy("ann", 1, 105)), told)
        self.assertEqual(len(hall), 0)

    def test_behind_what_is_left(self):
        hall = hall_of(sell("bob", 1, 105), buy("cid", 5, 90, stop=105))
        told = [("taken", 2), ("trade", 2, 0, 105, 1), ("rests", 2, 4), ("woken", 1), ("rests", 1, 5)]
        self.tells(hall.tell(buy("ann", 5, 105)), told)
        self.stands(hall, (2, 105, 4, 4, 1), (1, 90, 5, 5, 2))
        hall = hall_of(sell("bob", 1, 105), buy("cid", 5, 90, stop=105))
        told = [("taken", 2), ("trade", 2, 0, 105, 1), ("off", 2, 4, "now"), ("woken", 1), ("rests", 1, 5)]
        self.tells(hall.tell(buy("ann", 5, 105, life="now")), told)

    def test_none_behind_a_halt(self):
        hall = hall_of(sell("bob", 1, 103), sell("bob", 1, 104), buy("cid", 5, 90, stop=103), things=BANDED)
        told = [("taken", 3), ("trade", 3, 0, 103, 1), ("halt", "gold"), ("rests", 3, 4)]
        self.tells(hall.tell(buy("ann", 5, 105)), told)
        self.assertEqual(hall.waiting("gold"), [2])
        # The opening at 104 lets it come.
        told = [
            ("phase", "gold", OPEN), ("opened", "gold", 105, 1), ("trade", 3, 1, 105, 1), ("woken", 2), ("rests", 2, 5),
        ]
        self.tells(hall.phase("gold", OPEN), told)

    def test_a_woken_one_halts_and_none_is_woken_behind(self):
        hall = hall_of(
            sell("bob", 1, 103), sell("bob", 1, 104), buy("cid", 5, 106, stop=103), buy("cid", 5, 90, stop=102),
            things=BANDED,
        )
        told = [("taken", 4), ("trade", 4, 0, 103, 1), ("woken", 2), ("halt", "gold"), ("rests", 2, 5)]
        self.tells(hall.tell(buy("ann", 1, 105)), told)
        self.assertEqual(hall.waiting("gold"), [3])
        self.assertEqual(hall.phase_of("gold"), CALL)

    def test_one_that_came_with_its_stop_reached_wakes_others(self):
        hall = hall_of(sell("bob", 2, 105), buy("cid", 1, 90, stop=105))
        told = [("taken", 2), ("trade", 2, 0, 105, 1), ("woken", 1), ("rests", 1, 1)]
        self.tells(hall.tell(buy("ann", 1, 105, stop=100)), told)

    def test_a_woken_one_keeps_its_number_and_gets_a_rank_as_it_stands(self):
        hall = hall_of(buy("cid", 7, 90, stop=105, shown=3), buy("dan", 5, 90), sell("bob", 1, 105))
        told = [("taken", 3), ("trade", 3, 2, 105, 1), ("woken", 0), ("rests", 0, 3)]
        self.tells(hall.tell(buy("ann", 1, 105)), told)
        self.assertEqual(hall.standing("gold"), [(1, "dan", BUY, 90, None, 5, 5, 0), (0, "cid", BUY, 90, 3, 7, 3, 2)])

    def test_many_of_one_stop(self):
        waiting = [buy("cid", 1, 50 + at, stop=105) for at in range(30)]
        hall = hall_of(*waiting, sell("bob", 1, 105))
        told = hall.tell(buy("ann", 1, 105))[2:]
        self.assertEqual(told[0::2], [("woken", number) for number in range(30)])
        self.assertEqual(told[1::2], [("rests", number, 1) for number in range(30)])


if __name__ == "__main__":
    unittest.main()
