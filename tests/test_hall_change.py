"""Point 15: cancel, sweep, change and phase."""

import unittest

from anything import ANYTHING, MOST
from hallcase import HallCase, buy, hall_of, sell
from ringhall.errors import BadOrder, BadPhase, NoOrder, NoThing, OverReach, Shut
from ringhall.words import BUY, CALL, OPEN, SELL, SHUT

TWO = (("gold", 100, None, "rank"), ("tin", 100, None, "share"))
BANDED = (("gold", 100, 3, "rank"),)


class Cancel(HallCase):
    def test_one_that_stands(self):
        hall = hall_of(buy("ann", 9, 90, shown=2), buy("bob", 5, 90))
        self.tells(hall.cancel(0), [("off", 0, 9, "cancel")])
        self.stands(hall, (1, 90, 5, 5, 1))
        self.tells(hall.cancel(number=1), [("off", 1, 5, "cancel")])
        self.assertEqual(len(hall), 0)

    def test_what_is_left(self):
        hall = hall_of(buy("ann", 9, 90, shown=2), sell("bob", 3, 90))
        self.tells(hall.cancel(0), [("off", 0, 6, "cancel")])

    def test_one_that_waits(self):
        hall = hall_of(buy("ann", 9, 90, stop=105), buy("bob", 9, 90, stop=105))
        self.tells(hall.cancel(1), [("off", 1, 9, "cancel")])
        self.assertEqual(hall.waiting("gold"), [0])
        self.tells(hall.cancel(0), [("off", 0, 9, "cancel")])
        self.assertEqual(hall.waiting("gold"), [])
        # They do not wake any more.
        hall.tell(sell("cid", 1, 105))
        self.tells(hall.tell(buy("ann", 1, 105)), [("taken", 3), ("trade", 3, 2, 105, 1)])

    def test_in_any_phase(self):
        for phase in (CALL, SHUT):
            hall = hall_of(buy("ann", 9, 90), sell("ann", 4, 90, stop=50))
            hall.phase("gold", phase)
            self.tells(hall.cancel(0), [("off", 0, 9, "cancel")])
            self.tells(hall.cancel(1), [("off", 1, 4, "cancel")])
            self.assertEqual(hall.phase_of("gold"), phase)

    def test_what_is_not_there(self):
        hall = hall_of(buy("ann", 5, 90), sell("bob", 5, 90), buy("ann", 5, life="now"), buy("cid", 5, 80))
        hall.cancel(3)
        for number in (0, 1, 2, 3, 4, -1, MOST, -MOST):
            self.refused(hall, NoOrder, ("number", number), hall.cancel, number)

    def test_nothing_wakes(self):
        hall = hall_of(buy("ann", 5, 90), buy("ann", 5, 90, stop=101))
        self.tells(hall.cancel(0), [("off", 0, 5, "cancel")])
        self.assertEqual(hall.waiting("gold"), [1])


class Sweep(HallCase):
    def orders(self):
        return hall_of(
            buy("ann", 9, 90, shown=2), buy("bob", 5, 90), sell("ann", 3, 110, "tin"),
            buy("ann", 4, 90, "tin", stop=105), sell("bob", 1, 120, stop=80), sell("ann", 7, 120, stop=80), things=TWO,
        )

    def test_all_of_an_owner_by_number(self):
        hall = self.orders()
        told = [("off", 0, 9, "cancel"), ("off", 2, 3, "cancel"), ("off", 3, 4, "cancel"), ("off", 5, 7, "cancel")]
        self.tells(hall.sweep("ann"), told)
        self.assertEqual(len(hall), 2)
        self.stands(hall, (1, 90, 5, 5, 1))
        self.assertEqual((hall.waiting("gold"), hall.waiting("tin")), ([4], []))
        self.tells(hall.sweep("ann"), [])
        self.tells(hall.sweep(owner="bob"), [("off", 1, 5, "cancel"), ("off", 4, 1, "cancel")])

    def test_ten_and_more_by_number_not_by_text(self):
        hall = hall_of(*[buy("ann", 1, 200 - at) for at in range(12)])
        self.assertEqual([event[1] for event in hall.sweep("ann")], list(range(12)))

    def test_of_none(self):
        for owner in ("zoe", "gold", "", "Ann", "ann ", "no name at all"):
            hall = self.orders()
            ahead = hall.picture()
            self.tells(hall.sweep(owner), [])
            self.assertEqual(hall.picture(), ahead)

    def test_in_any_phase(self):
        for phase in (CALL, SHUT):
            hall = self.orders()
            hall.phase("gold", phase)
            self.assertEqual(len(hall.sweep("ann")), 4)


class MadeLess(HallCase):
    def test_of_what_is_hidden(self):
        hall = hall_of(buy("ann", 10, 90, shown=4), buy("bob", 5, 90))
        self.tells(hall.change(0, amount=7), [("less", 0, 3)])
        self.stands(hall, (0, 90, 7, 4, 0), (1, 90, 5, 5, 1))
        self.tells(hall.change(0, amount=4), [("less", 0, 3)])
        self.stands(hall, (0, 90, 4, 4, 0), (1, 90, 5, 5, 1))

    def test_of_what_is_seen(self):
        hall = hall_of(buy("ann", 10, 90, shown=4), buy("bob", 5, 90))
        self.tells(hall.change(0, amount=3), [("less", 0, 7)])
        self.stands(hall, (0, 90, 3, 3, 0), (1, 90, 5, 5, 1))
        self.tells(hall.change(0, amount=1), [("less", 0, 2)])
        self.tells(hall.change(1, amount=2), [("less", 1, 3)])
        self.stands(hall, (0, 90, 1, 1, 0), (1, 90, 2, 2, 1))
        self.assertEqual(hall.standing("gold")[0][4], 4)

    def test_a_part_of_it_is_seen(self):
        hall = hall_of(buy("ann", 10, 90, shown=4), sell("bob", 3, 90))
        self.tells(hall.change(0, amount=2), [("less", 0, 5)])
        self.stands(hall, (0, 90, 2, 1, 0))
        self.tells(hall.tell(sell("bob", 2, 90)), [
            ("taken", 2), ("trade", 0, 2, 90, 1), ("shown", 0, 1), ("trade", 0, 2, 90, 1),
        ])

    def test_to_as_much_as_is_left(self):
        hall = hall_of(buy("ann", 10, 90, shown=4), sell("bob", 3, 90))
        ahead = hall.picture()
        self.tells(hall.change(0, amount=7), [])
        self.tells(hall.change(0, amount=7, price=90), [])
        self.tells(hall.change(0, price=90), [])
        self.assertEqual(hall.picture(), ahead)

    def test_with_the_price_that_it_has(self):
        hall = hall_of(buy("ann", 10, 90), buy("bob", 5, 90))
        self.tells(hall.change(0, price=90, amount=7), [("less", 0, 3)])
        self.stands(hall, (0, 90, 7, 7, 0), (1, 90, 5, 5, 1))

    def test_in_a_call(self):
        hall = hall_of(sell("ann", 10, 90, shown=4), sell("bob", 5, 90))
        hall.phase("gold", CALL)
        self.tells(hall.change(0, amount=3), [("less", 0, 7)])
        self.tells(hall.change(0, amount=3), [])
        self.stands(hall, (0, 90, 3, 3, 0), (1, 90, 5, 5, 1))

    def test_the_first_of_its_price_still_meets_first(self):
        hall = hall_of(sell("ann", 10, 90), sell("bob", 5, 90), sell("cid", 5, 90))
        hall.change(1, amount=2)
        hall.change(0, amount=1)
        self.tells(hall.tell(buy("dan", 4, 90)), [
            ("taken", 3), ("trade", 3, 0, 90, 1), ("trade", 3, 1, 90, 2), ("trade", 3, 2, 90, 1),
        ])


class ChangedAndAnew(HallCase):
    def test_more(self):
        hall = hall_of(buy("ann", 5, 90, shown=2), buy("bob", 5, 90))
        self.tells(hall.change(0, amount=6), [("changed", 0), ("rests", 0, 2)])
        self.stands(hall, (1, 90, 5, 5, 1), (0, 90, 6, 2, 2))
        self.tells(hall.change(1, amount=1000), [("changed", 1), ("rests", 1, 1000)])
        self.stands(hall, (0, 90, 6, 2, 2), (1, 90, 1000, 1000, 3))

    def test_more_than_is_left(self):
        hall = hall_of(buy("ann", 9, 90), sell("bob", 5, 90), buy("cid", 1, 90))
        self.tells(hall.change(0, amount=5), [("changed", 0), ("rests", 0, 5)])
        self.stands(hall, (2, 90, 1, 1, 1), (0, 90, 5, 5, 2))

    def test_another_price(self):
        hall = hall_of(buy("ann", 5, 90, shown=2), buy("bob", 5, 90), sell("cid", 1, 90))
        self.tells(hall.change(0, price=91), [("changed", 0), ("rests", 0, 2)])
        self.assertEqual(hall.standing("gold")[0], (0, "ann", BUY, 91, 2, 4, 2, 2))
        self.tells(hall.change(0, price=1), [("changed", 0), ("rests", 0, 2)])
        self.stands(hall, (1, 90, 5, 5, 1), (0, 1, 4, 2, 3))

    def test_another_price_and_less_or_as_much_or_more(self):
        for amount in (3, 5, 8):
            hall = hall_of(buy("ann", 5, 90), buy("bob", 5, 90))
            self.tells(hall.change(0, price=89, amount=amount), [("changed", 0), ("rests", 0, amount)])
            self.stands(hall, (1, 90, 5, 5, 1), (0, 89, amount, amount, 2))

    def test_it_comes(self):
        hall = hall_of(buy("ann", 5, 90), sell("bob", 2, 95), sell("cid", 9, 96))
        told = [("changed", 0), ("trade", 0, 1, 95, 2), ("rests", 0, 3)]
        self.tells(hall.change(0, price=95), told)
        told = [("changed", 0), ("trade", 0, 2, 96, 9), ("rests", 0, 1)]
        self.tells(hall.change(0, price=99, amount=10), told)
        self.tells(hall.tell(sell("bob", 1, 99)), [("taken", 3), ("trade", 0, 3, 99, 1)])
        self.assertEqual(len(hall), 0)

    def test_it_is_traded_away(self):
        hall = hall_of(buy("ann", 5, 90), sell("bob", 9, 95))
        self.tells(hall.change(0, price=95), [("changed", 0), ("trade", 0, 1, 95, 5)])
        self.refused(hall, NoOrder, ("number", 0), hall.change, 0, price=95)
        self.assertEqual(len(hall), 1)

    def test_it_does_not_meet_itself(self):
        hall = hall_of(buy("ann", 5, 90, guard="both"))
        self.tells(hall.change(0, price=95), [("changed", 0), ("rests", 0, 5)])

    def test_its_guard_and_life(self):
        hall = hall_of(buy("ann", 5, 90, guard="new"), sell("ann", 5, 95))
        self.tells(hall.change(0, price=95), [("changed", 0), ("off", 0, 5, "guard")])
        hall = hall_of(buy("ann", 5, 90, life="only"), sell("bob", 5, 95))
        self.tells(hall.change(0, amount=6), [("changed", 0), ("rests", 0, 6)])
        self.tells(hall.change(0, price=95, amount=2), [("changed", 0), ("off", 0, 2, "only")])
        self.assertEqual(len(hall), 1)

    def test_it_wakes_others(self):
        hall = hall_of(buy("ann", 5, 90), sell("bob", 2, 105), buy("cid", 7, 80, stop=105))
        told = [("changed", 0), ("trade", 0, 1, 105, 2), ("rests", 0, 3), ("woken", 2), ("rests", 2, 7)]
        self.tells(hall.change(0, price=105), told)

    def test_it_halts(self):
        hall = hall_of(buy("ann", 5, 99), sell("bob", 2, 103), sell("bob", 2, 104), things=BANDED)
        told = [("changed", 0), ("trade", 0, 1, 103, 2), ("halt", "gold"), ("rests", 0, 3)]
        self.tells(hall.change(0, price=104), told)
        self.assertEqual(hall.phase_of("gold"), CALL)

    def test_in_a_call_it_stands(self):
        hall = hall_of(buy("ann", 5, 90, shown=2), sell("bob", 2, 95), buy("cid", 2, 90, life="only"))
        hall.phase("gold", CALL)
        self.tells(hall.change(0, price=95), [("changed", 0), ("rests", 0, 2)])
        self.tells(hall.change(0, price=95, amount=40), [("changed", 0), ("rests", 0, 2)])
        self.tells(hall.change(2, price=96), [("changed", 2), ("rests", 2, 2)])
        self.stands(hall, (2, 96, 2, 2, 5), (0, 95, 40, 2, 4), (1, 95, 2, 2, 1))

    def test_its_stop_is_not_asked_again(self):
        hall = hall_of(sell("bob", 1, 105), buy("ann", 5, 90, stop=104), buy("cid", 1, 105), buy("dan", 1, 95))
        self.stands(hall, (3, 95, 1, 1, 2), (1, 90, 5, 5, 1))
        hall.tell(sell("bob", 1, 95))
        self.assertEqual(hall.last("gold"), 95)
        self.tells(hall.change(1, price=91), [("changed", 1), ("rests", 1, 5)])
        hall.phase("gold", CALL)
        self.tells(hall.change(1, price=92), [("changed", 1), ("rests", 1, 5)])

    def test_an_amount_below_the_shown_part(self):
        hall = hall_of(buy("ann", 50, 90, shown=10))
        self.tells(hall.change(0, amount=4), [("less", 0, 46)])
        self.assertEqual(hall.standing("gold"), [(0, "ann", BUY, 90, 10, 4, 4, 0)])
        self.tells(hall.change(0, amount=6), [("changed", 0), ("rests", 0, 6)])
        self.tells(hall.change(0, amount=200), [("changed", 0), ("rests", 0, 10)])
        self.tells(hall.change(0, price=91, amount=1), [("changed", 0), ("rests", 0, 1)])

    def test_by_names_in_any_order(self):
        hall = hall_of(buy("ann", 5, 90))
        self.tells(hall.change(amount=6, price=92, number=0), [("changed", 0), ("rests", 0, 6)])
        with self.assertRaises(TypeError):
            hall.change(0, 95)


class ChangedAndWaits(HallCase):
    def test_price_and_amount(self):
        hall = hall_of(buy("ann", 5, 90, stop=105, shown=2))
        self.tells(hall.change(0, price=91), [("changed", 0)])
        self.tells(hall.change(0, amount=3), [("changed", 0)])
        self.tells(hall.change(0, price=92, amount=40), [("changed", 0)])
        self.tells(hall.change(0, price=92, amount=40), [("changed", 0)])
        self.tells(hall.change(0, price=92), [("changed", 0)])
        self.assertEqual(hall.waiting("gold"), [0])
        self.assertIn("\norder 0 ann gold buy 92 2 105 rest old 40 - -", hall.picture())
        self.assertIn("\nnext 1 0\n", hall.picture())

    def test_one_without_a_price(self):
        hall = hall_of(buy("ann", 5, stop=105, life="whole"))
        self.tells(hall.change(0, amount=3), [("changed", 0)])
        self.assertIn("\norder 0 ann gold buy - - 105 whole old 3 - -", hall.picture())
        self.tells(hall.change(0, price=3), [("changed", 0)])
        self.assertIn("\norder 0 ann gold buy 3 - 105 whole old 3 - -", hall.picture())

    def test_in_a_call(self):
        hall = hall_of(buy("ann", 5, 90, stop=105))
        hall.phase("gold", CALL)
        self.tells(hall.change(0, price=91, amount=9), [("changed", 0)])
        self.assertEqual(hall.waiting("gold"), [0])

    def test_it_comes_as_changed(self):
        hall = hall_of(buy("ann", 5, 90, stop=105), sell("bob", 9, 105))
        hall.change(0, price=110, amount=3)
        told = [("taken", 2), ("trade", 2, 1, 105, 1), ("woken", 0), ("trade", 0, 1, 105, 3)]
        self.tells(hall.tell(buy("cid", 1, 105)), told)

    def test_refusals(self):
        hall = hall_of(buy("ann", 5, 90, stop=105, shown=2), reach=50)
        self.refused(hall, BadOrder, ("word", "amount"), hall.change, 0, amount=41)
        self.refused(hall, BadOrder, ("word", "amount"), hall.change, 0)
        self.refused(hall, BadOrder, ("word", "price"), hall.change, 0, price=0)
        hall.tell(buy("ann", 20, 80))
        self.refused(hall, OverReach, ("owner", "ann"), hall.change, 0, amount=31)
        self.tells(hall.change(0, amount=30), [("changed", 0)])


class ChangeRefused(HallCase):
    def test_no_order(self):
        hall = hall_of(buy("ann", 5, 90), sell("bob", 5, 90))
        for number in (0, 1, 2, -1, MOST):
            self.refused(hall, NoOrder, ("number", number), hall.change, number, amount=3)
            self.refused(hall, NoOrder, ("number", number), hall.change, number, price="x")
            self.refused(hall, NoOrder, ("number", number), hall.change, number)

    def test_shut(self):
        hall = hall_of(buy("ann", 5, 90), buy("ann", 5, 90, stop=105))
        hall.phase("gold", SHUT)
        for number in (0, 1):
            self.refused(hall, Shut, ("name", "gold"), hall.change, number, amount=3)
            self.refused(hall, Shut, ("name", "gold"), hall.change, number, price=0)
            self.refused(hall, Shut, ("name", "gold"), hall.change, number)
        self.refused(hall, NoOrder, ("number", 2), hall.change, 2, amount=3)

    def test_no_price(self):
        hall = hall_of(buy("ann", 5, 90), buy("ann", 5, 90, stop=105), reach=10)
        hall.phase("gold", CALL)
        for number in (0, 1):
            for price in ANYTHING + [0, 1000001, -1]:
                if price is None or type(price) is int and 1 <= price <= 1000000:
                    continue
                self.refused(hall, BadOrder, ("word", "price"), hall.change, number, price=price)
                self.refused(hall, BadOrder, ("word", "price"), hall.change, number, price=price, amount="x")
                self.refused(hall, BadOrder, ("word", "price"), hall.change, number, price=price, amount=99)

    def test_no_amount(self):
        hall = hall_of(buy("ann", 5, 90), buy("ann", 5, 90, stop=105), reach=10)
        for number in (0, 1):
            for amount in ANYTHING + [0, 1000000001, -1]:
                if amount is None or type(amount) is int and 1 <= amount <= 1000000000:
                    continue
                self.refused(hall, BadOrder, ("word", "amount"), hall.change, number, amount=amount)
                self.refused(hall, BadOrder, ("word", "amount"), hall.change, number, amount=amount, price=90)
                self.refused(hall, BadOrder, ("word", "amount"), hall.change, number, amount=amount, price=91)

    def test_bounds(self):
        hall = hall_of(buy("ann", 5, 90))
        self.tells(hall.change(0, price=1), [("changed", 0), ("rests", 0, 5)])
        self.tells(hall.change(0, price=1000000), [("changed", 0), ("rests", 0, 5)])
        self.tells(hall.change(0, amount=1000000000), [("changed", 0), ("rests", 0, 1000000000)])
        self.tells(hall.change(0, amount=1), [("less", 0, 999999999)])

    def test_neither(self):
        hall = hall_of(buy("ann", 5, 90))
        self.refused(hall, BadOrder, ("word", "amount"), hall.change, 0)
        self.refused(hall, BadOrder, ("word", "amount"), hall.change, 0, price=None, amount=None)

    def test_less_than_a_twentieth_is_shown(self):
        hall = hall_of(buy("ann", 5, 90, shown=2), reach=41)
        self.refused(hall, BadOrder, ("word", "amount"), hall.change, 0, amount=41)
        self.refused(hall, BadOrder, ("word", "amount"), hall.change, 0, amount=41, price=90)
        self.refused(hall, BadOrder, ("word", "amount"), hall.change, 0, amount=42, price=91)
        self.tells(hall.change(0, amount=40), [("changed", 0), ("rests", 0, 2)])
        self.tells(hall.change(0, price=91), [("changed", 0), ("rests", 0, 2)])

    def test_over_the_reach(self):
        hall = hall_of(buy("ann", 5, 90), buy("ann", 3, 90, stop=105), reach=10)
        for number, most in ((0, 7), (1, 5)):
            self.refused(hall, OverReach, ("owner", "ann"), hall.change, number, amount=most + 1)
            self.refused(hall, OverReach, ("owner", "ann"), hall.change, number, amount=most + 1, price=91)
        self.tells(hall.change(0, amount=7), [("changed", 0), ("rests", 0, 7)])
        self.refused(hall, OverReach, ("owner", "ann"), hall.change, 1, amount=4)
        self.tells(hall.change(1, price=91), [("changed", 1)])
        self.tells(hall.change(0, price=91), [("changed", 0), ("rests", 0, 7)])
        self.tells(hall.change(0, amount=6), [("less", 0, 1)])
        self.tells(hall.change(1, amount=4), [("changed", 1)])

    def test_over_the_reach_by_what_is_had(self):
        hall = hall_of(sell("ann", 9, 90), buy("bob", 4, 90), reach=10)
        self.refused(hall, OverReach, ("owner", "ann"), hall.change, 0, amount=7)
        self.tells(hall.change(0, amount=6), [("changed", 0), ("rests", 0, 6)])
        hall.tell(buy("ann", 9, 80))
        self.refused(hall, OverReach, ("owner", "ann"), hall.change, 2, amount=15)
        self.tells(hall.change(2, amount=14), [("changed", 2), ("rests", 2, 14)])


class Phase(HallCase):
    def test_turns(self):
        hall = hall_of()
        for word in (CALL, SHUT, CALL, OPEN, SHUT, OPEN, CALL, OPEN):
            told = [("phase", "gold", word)]
            if word == OPEN:
                told.append(("opened", "gold", None, 0))
            self.tells(hall.phase("gold", word), told)
            self.assertEqual(hall.phase_of("gold"), word)

    def test_by_name(self):
        hall = hall_of()
        self.tells(hall.phase(word=CALL, thing="gold"), [("phase", "gold", CALL)])

    def test_refusals(self):
        for phase in (OPEN, CALL, SHUT):
            hall = hall_of(buy("ann", 5, 90), buy("ann", 5, 90, stop=105))
            if phase != OPEN:
                hall.phase("gold", phase)
            for word in (phase, "", "Open", "open ", "closed", "rest", "gold"):
                self.refused(hall, BadPhase, ("word", word), hall.phase, "gold", word)
            for thing in ("lead", "", "Gold", "gold ", "ann"):
                self.refused(hall, NoThing, ("name", thing), hall.phase, thing, SHUT)
                self.refused(hall, NoThing, ("name", thing), hall.phase, thing, "closed")

    def test_one_thing_alone(self):
        hall = hall_of(things=TWO)
        hall.phase("tin", SHUT)
        self.assertEqual((hall.phase_of("gold"), hall.phase_of("tin")), (OPEN, SHUT))

    def test_nothing_moves_but_to_open(self):
        hall = hall_of(buy("ann", 9, 90, shown=2), buy("cid", 5, 90, stop=105))
        ahead = hall.picture()
        hall.phase("gold", CALL)
        self.assertEqual(hall.picture(), ahead.replace(" open ", " call "))
        hall.phase("gold", SHUT)
        self.assertEqual(hall.picture(), ahead.replace(" open ", " shut "))

    def test_an_opening(self):
        for ahead in ([CALL], [CALL, SHUT]):
            hall = hall_of(buy("ann", 9, 90, shown=2))
            hall.phase("gold", CALL)
            hall.tell(sell("bob", 4, 85))
            hall.tell(sell("cid", 3, 90))
            hall.tell(sell("dan", 3, 91))
            for word in ahead[1:]:
                hall.phase("gold", word)
            told = [
                ("phase", "gold", OPEN), ("opened", "gold", 90, 7), ("trade", 0, 1, 90, 4), ("trade", 0, 2, 90, 3),
                ("shown", 0, 2),
            ]
            self.tells(hall.phase("gold", OPEN), told)
            self.stands(hall, (0, 90, 2, 2, 4), (3, 91, 3, 3, 3))
            self.assertEqual((hall.last("gold"), hall.anchor("gold")), (90, 90))
            self.assertEqual([hall.cash(owner) for owner in ("ann", "bob", "cid", "dan")], [-630, 360, 270, 0])
            self.assertEqual([hall.holding(owner, "gold") for owner in ("ann", "bob", "cid")], [7, -4, -3])
            self.assertEqual(len(hall), 2)

    def test_an_opening_from_shut_of_what_stood_in_a_call(self):
        hall = hall_of(sell("bob", 4, 95))
        hall.phase("gold", CALL)
        hall.tell(buy("ann", 4, 99))
        hall.phase("gold", SHUT)
        told = [("phase", "gold", OPEN), ("opened", "gold", 99, 4), ("trade", 1, 0, 99, 4)]
        self.tells(hall.phase("gold", OPEN), told)
        self.assertEqual(len(hall), 0)

    def test_without_a_volume_last_and_anchor_stay(self):
        hall = hall_of(buy("ann", 4, 90), sell("bob", 2, 90), sell("bob", 2, 95))
        hall.phase("gold", CALL)
        told = [("phase", "gold", OPEN), ("opened", "gold", None, 0)]
        self.tells(hall.phase("gold", OPEN), told)
        self.assertEqual((hall.last("gold"), hall.anchor("gold")), (90, 100))
        self.stands(hall, (0, 90, 2, 2, 0), (2, 95, 2, 2, 1))

    def test_the_last_price_ahead_of_it_chooses(self):
        for last, price in ((95, 95), (80, 90), (105, 100)):
            hall = hall_of(things=(("gold", last, None, "rank"),))
            hall.phase("gold", CALL)
            hall.tell(buy("ann", 4, 100))
            hall.tell(sell("bob", 4, 90))
            self.tells(hall.phase("gold", OPEN)[1:2], [("opened", "gold", price, 4)])

    def test_with_oneself(self):
        hall = hall_of(buy("ann", 4, 90, guard="both"))
        hall.phase("gold", CALL)
        hall.tell(sell("ann", 4, 90, guard="both"))
        told = [("phase", "gold", OPEN), ("opened", "gold", 90, 4), ("trade", 0, 1, 90, 4)]
        self.tells(hall.phase("gold", OPEN), told)
        self.assertEqual((hall.cash("ann"), hall.holding("ann", "gold"), hall.last("gold")), (0, 0, 90))

    def test_beyond_the_band(self):
        hall = hall_of(things=BANDED)
        hall.phase("gold", CALL)
        hall.tell(buy("ann", 4, 120))
        hall.tell(sell("bob", 4, 120))
        told = [("phase", "gold", OPEN), ("opened", "gold", 120, 4), ("trade", 0, 1, 120, 4)]
        self.tells(hall.phase("gold", OPEN), told)
        self.assertEqual(hall.anchor("gold"), 120)

    def test_then_it_wakes(self):
        hall = hall_of()
        hall.phase("gold", CALL)
        hall.tell(buy("cid", 5, 90, stop=1000))
        hall.tell(buy("cid", 5, 80, stop=105))
        hall.tell(sell("dan", 5, 120, stop=105))
        hall.tell(sell("dan", 5, 121, stop=104))
        hall.tell(buy("ann", 4, 105))
        hall.tell(sell("bob", 4, 105))
        told = [
            ("phase", "gold", OPEN), ("opened", "gold", 105, 4), ("trade", 4, 5, 105, 4),
            ("woken", 1), ("rests", 1, 5), ("woken", 2), ("rests", 2, 5),
        ]
        self.tells(hall.phase("gold", OPEN), told)
        self.assertEqual(hall.waiting("gold"), [0, 3])

    def test_it_wakes_without_a_volume_too(self):
        hall = hall_of()
        hall.phase("gold", CALL)
        hall.tell(buy("cid", 5, 90, stop=100))
        told = [("phase", "gold", OPEN), ("opened", "gold", None, 0), ("woken", 0), ("rests", 0, 5)]
        self.tells(hall.phase("gold", OPEN), told)

    def test_what_wakes_meets_and_halts(self):
        hall = hall_of(sell("bob", 5, 104), things=BANDED)
        hall.phase("gold", CALL)
        hall.tell(buy("cid", 5, stop=100, life="now"))
        hall.tell(buy("dan", 5, 90, stop=100))
        told = [
            ("phase", "gold", OPEN), ("opened", "gold", None, 0), ("woken", 1), ("halt", "gold"), ("off", 1, 5, "now"),
        ]
        self.tells(hall.phase("gold", OPEN), told)
        self.assertEqual(hall.phase_of("gold"), CALL)
        self.assertEqual(hall.waiting("gold"), [2])

    def test_one_shows_anew_by_the_next_rank(self):
        hall = hall_of(sell("bob", 9, 95, shown=3), sell("cid", 2, 95))
        hall.phase("gold", CALL)
        hall.tell(buy("ann", 3, 95))
        told = [("phase", "gold", OPEN), ("opened", "gold", 95, 3), ("trade", 2, 0, 95, 3), ("shown", 0, 3)]
        self.tells(hall.phase("gold", OPEN), told)
        self.stands(hall, (1, 95, 2, 2, 1), (0, 95, 6, 3, 3))
        self.assertIn("\nnext 3 4\n", hall.picture())


if __name__ == "__main__":
    unittest.main()
