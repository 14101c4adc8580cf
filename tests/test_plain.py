"""Points 6 to 9: what a coming order does to rows, by the plain rule."""

import itertools
import time
import unittest

from anything import alike
from made import GUARDS, MOST, RULES, SIDES, cases, mirrored, mirrored_event, row
from oracle import oracle_meet
from ringhall.plain import plain_meet, shares
from ringhall.words import BOTH, BUY, LESS, NEW, OLD, RANK, SELL, SHARE


class PlainCase(unittest.TestCase):
    """A case that checks a meeting as told, its mirror, and its rows in another order."""

    def check(self, rows, coming, told, rank=100, **more):
        events, behind, left, halted, next_rank = told
        kept = list(rows)
        for orders in (rows, rows[::-1], rows[1:] + rows[:1]):
            orders = list(orders)
            answer = plain_meet(orders, coming, rank=rank, **more)
            self.assertEqual(answer, (events, behind, left, halted, next_rank))
            self.assertTrue(alike(answer, (events, behind, left, halted, next_rank)))
        self.assertEqual(rows, kept)
        turned = dict(more)
        if turned.get("anchor") is not None:
            turned["anchor"] = 200 - turned["anchor"]
        answer = plain_meet([mirrored(one) for one in rows], mirrored(coming), rank=rank, **turned)
        buys_then_sells = [one for one in behind if one[2] == SELL] + [one for one in behind if one[2] == BUY]
        mirror = ([mirrored_event(event) for event in events], [mirrored(one) for one in buys_then_sells])
        self.assertTrue(alike(answer, mirror + (left, halted, next_rank)))


SELLS = [row(1, "ann", SELL, 100, 5), row(2, "bob", SELL, 100, 7), row(3, "cid", SELL, 102, 9)]
BUYS = [row(4, "dan", BUY, 98, 4), row(5, "ann", BUY, 97, 6)]


class NothingMet(PlainCase):
    def test_no_rows(self):
        for rule in RULES:
            for price in (None, 100):
                for guard in GUARDS:
                    self.check([], (7, "eve", BUY, price, 5, guard), ([], [], 5, False, 100), rule=rule)

    def test_no_rows_and_a_band(self):
        for rule in RULES:
            told = ([], [], 5, False, 100)
            self.check([], (7, "eve", BUY, None, 5, OLD), told, rule=rule, band=0, anchor=1)

    def test_only_its_own_side(self):
        for rule in RULES:
            told = ([], BUYS, 5, False, 100)
            self.check(BUYS, (7, "eve", BUY, None, 5, OLD), told, rule=rule)
            self.check(BUYS, (7, "ann", BUY, None, 5, BOTH), told, rule=rule, band=0, anchor=1)

    def test_no_price_let_by(self):
        rows = SELLS + BUYS
        for rule in RULES:
            told = ([], BUYS + SELLS, 500, False, 100)
            self.check(rows, (7, "eve", BUY, 99, 500, OLD), told, rule=rule)
            # What is not let by does not halt, however far it lies.
            self.check(rows, (7, "eve", BUY, 99, 500, OLD), told, rule=rule, band=0, anchor=1)
            # Nor does a guard ask for it.
            self.check(rows, (7, "ann", BUY, 99, 500, BOTH), told, rule=rule)


class ByRank(PlainCase):
    def test_a_part_of_the_first(self):
        told = ([("trade", 7, 1, 100, 3)], BUYS + [row(1, "ann", SELL, 100, 2)] + SELLS[1:], 0, False, 100)
        self.check(SELLS + BUYS, (7, "eve", BUY, 100, 3, OLD), told)

    def test_all_of_the_first(self):
        told = ([("trade", 7, 1, 100, 5)], BUYS + SELLS[1:], 0, False, 100)
        self.check(SELLS + BUYS, (7, "eve", BUY, 100, 5, OLD), told)

    def test_the_first_and_a_part_of_the_second(self):
        told = (
            [("trade", 7, 1, 100, 5), ("trade", 7, 2, 100, 1)],
            BUYS + [row(2, "bob", SELL, 100, 6), SELLS[2]], 0, False, 100,
        )
        self.check(SELLS + BUYS, (7, "eve", BUY, 100, 6, OLD), told)

    def test_all_that_a_price_lets_by(self):
        events = [("trade", 7, 1, 100, 5), ("trade", 7, 2, 100, 7)]
        for price in (100, 101):
            self.check(SELLS + BUYS, (7, "eve", BUY, price, 20, OLD), (events, BUYS + SELLS[2:], 8, False, 100))
        events.append(("trade", 7, 3, 102, 8))
        behind = BUYS + [row(3, "cid", SELL, 102, 1)]
        for price in (102, 199, None):
            self.check(SELLS + BUYS, (7, "eve", BUY, price, 20, OLD), (events, behind, 0, False, 100))

    def test_more_than_there_is(self):
        events = [("trade", 7, 1, 100, 5), ("trade", 7, 2, 100, 7), ("trade", 7, 3, 102, 9)]
        self.check(SELLS + BUYS, (7, "eve", BUY, None, 22, OLD), (events, BUYS, 1, False, 100))
        self.check(SELLS, (7, "eve", BUY, 102, 21, OLD), (events, [], 0, False, 100))

    def test_a_sell_takes_the_highest_buy_first(self):
        rows = [row(1, "ann", BUY, 90, 5), row(2, "bob", BUY, 92, 5), row(3, "cid", BUY, 91, 5)]
        events = [("trade", 2, 9, 92, 5), ("trade", 3, 9, 91, 2)]
        told = (events, [row(3, "cid", BUY, 91, 3), rows[0]], 0, False, 4)
        self.check(rows, (9, "eve", SELL, 90, 7, OLD), told, rank=4)

    def test_the_lesser_rank_first_whatever_the_number(self):
        rows = [row(1, "ann", SELL, 100, 5, 30), row(2, "bob", SELL, 100, 5, 9), row(3, "cid", SELL, 100, 5, 20)]
        for amount, numbers in ((5, [2]), (10, [2, 3]), (15, [2, 3, 1])):
            events = [("trade", 9, number, 100, 5) for number in numbers]
            behind = [one for one in (rows[1], rows[2], rows[0]) if one[0] not in numbers]
            for orders in itertools.permutations(rows):
                self.check(list(orders), (9, "eve", BUY, 100, amount, NEW), (events, behind, 0, False, 31), rank=31)

    def test_rank_is_the_usual_rule(self):
        rows = [row(1, "ann", SELL, 100, 10), row(2, "bob", SELL, 100, 10)]
        answer = plain_meet(rows, (9, "eve", BUY, None, 10, OLD), rank=3)
        self.assertEqual(answer[0], [("trade", 9, 1, 100, 10)])

    def test_bounds(self):
        rows = [row(1, "ann", SELL, 1, MOST), row(2, "bob", SELL, 1000000, MOST)]
        events = [("trade", 9, 1, 1, MOST)]
        answer = plain_meet(rows, (9, "eve", BUY, None, MOST, OLD), rank=3)
        self.assertEqual(answer, (events, rows[1:], 0, False, 3))
        answer = plain_meet(rows[1:], (9, "eve", BUY, 1000000, MOST - 1, OLD), rank=3)
        behind = [row(2, "bob", SELL, 1000000, 1)]
        self.assertEqual(answer, ([("trade", 9, 2, 1000000, MOST - 1)], behind, 0, False, 3))
        answer = plain_meet(rows, (9, "eve", BUY, 999999, MOST, OLD), rank=3, band=999999, anchor=1000000)
        self.assertEqual(answer, (events, rows[1:], 0, False, 3))
        answer = plain_meet(rows, (9, "eve", BUY, 999999, MOST, OLD), rank=3, band=999998, anchor=1000000)
        self.assertEqual(answer, ([], rows, MOST, True, 3))


class ShownAnew(PlainCase):
    def test_once(self):
        rows = [row(1, "ann", SELL, 100, 12, shown=5), row(2, "bob", SELL, 100, 4)]
        behind = [rows[1], row(1, "ann", SELL, 100, 7, 100, 5)]
        told = ([("trade", 7, 1, 100, 5), ("shown", 1, 5)], behind, 0, False, 101)
        self.check(rows, (7, "eve", BUY, 100, 5, OLD), told)

    def test_behind_all_of_its_price(self):
        rows = [row(1, "ann", SELL, 100, 12, shown=5), row(2, "bob", SELL, 100, 4)]
        events = [("trade", 7, 1, 100, 5), ("shown", 1, 5), ("trade", 7, 2, 100, 4), ("trade", 7, 1, 100, 3)]
        behind = [row(1, "ann", SELL, 100, 4, 100, 5, 2)]
        self.check(rows, (7, "eve", BUY, 100, 12, OLD), (events, behind, 0, False, 101))

    def test_the_last_part_is_what_is_left(self):
        rows = [row(1, "ann", SELL, 100, 12, shown=5)]
        events = [("trade", 7, 1, 100, 5), ("shown", 1, 5), ("trade", 7, 1, 100, 5), ("shown", 1, 2)]
        told = (events, [row(1, "ann", SELL, 100, 2, 101, 5)], 0, False, 102)
        self.check(rows, (7, "eve", BUY, 100, 10, OLD), told)
        told = (events + [("trade", 7, 1, 100, 2)], [], 3, False, 102)
        self.check(rows, (7, "eve", BUY, 100, 15, OLD), told)

    def test_nothing_is_shown_anew_while_something_is_seen(self):
        rows = [row(1, "ann", SELL, 100, 12, 1, 5, 3)]
        told = ([("trade", 7, 1, 100, 2)], [row(1, "ann", SELL, 100, 10, 1, 5, 1)], 0, False, 100)
        self.check(rows, (7, "eve", BUY, 100, 2, OLD), told)

    def test_a_shown_part_above_what_is_left(self):
        rows = [row(1, "ann", SELL, 100, 4, shown=50)]
        self.check(rows, (7, "eve", BUY, 100, 9, OLD), ([("trade", 7, 1, 100, 4)], [], 5, False, 100))
        rows = [row(1, "ann", SELL, 100, 4, 1, 50, 1)]
        told = ([("trade", 7, 1, 100, 1), ("shown", 1, 3)], [row(1, "ann", SELL, 100, 3, 100, 50)], 0, False, 101)
        self.check(rows, (7, "eve", BUY, 100, 1, OLD), told)

    def test_many_times_in_turn(self):
        rows = [row(1, "ann", SELL, 100, 6, shown=2), row(2, "bob", SELL, 100, 5, shown=2), row(3, "cid", SELL, 101, 9)]
        events = [
            ("trade", 7, 1, 100, 2), ("shown", 1, 2), ("trade", 7, 2, 100, 2), ("shown", 2, 2),
            ("trade", 7, 1, 100, 2), ("shown", 1, 2), ("trade", 7, 2, 100, 2), ("shown", 2, 1),
            ("trade", 7, 1, 100, 2), ("trade", 7, 2, 100, 1), ("trade", 7, 3, 101, 4),
        ]
        told = (events, [row(3, "cid", SELL, 101, 5)], 0, False, 104)
        self.check(rows, (7, "eve", BUY, None, 15, OLD), told)

    def test_twenty_parts_of_the_most(self):
        shown = MOST // 20
        rows = [row(1, "ann", SELL, 100, MOST, shown=shown)]
        events = []
        for at in range(20):
            events.append(("trade", 7, 1, 100, shown))
            if at < 19:
                events.append(("shown", 1, shown))
        for rule in RULES:
            self.check(rows, (7, "eve", BUY, None, MOST, OLD), (events, [], 0, False, 119), rule=rule)


class Guards(PlainCase):
    def both_rules(self, rows, coming, told):
        for rule in RULES:
            self.check(rows, coming, told, rule=rule)

    def test_old_takes_the_row_off_whatever_is_left(self):
        for amount in (1, 7, 8, 9, 500):
            rows = [row(1, "eve", SELL, 100, 8, shown=3)]
            told = ([("off", 1, 8, "guard")], [], amount, False, 100)
            self.both_rules(rows, (7, "eve", BUY, 100, amount, OLD), told)

    def test_new_takes_the_coming_one_off(self):
        for amount in (1, 7, 8, 9, 500):
            rows = [row(1, "eve", SELL, 100, 8, shown=3)]
            told = ([("off", 7, amount, "guard")], rows, 0, False, 100)
            self.both_rules(rows, (7, "eve", BUY, 100, amount, NEW), told)

    def test_both_takes_the_row_off_first(self):
        for amount in (1, 7, 8, 9, 500):
            rows = [row(1, "eve", SELL, 100, 8, shown=3)]
            told = ([("off", 1, 8, "guard"), ("off", 7, amount, "guard")], [], 0, False, 100)
            self.both_rules(rows, (7, "eve", BUY, 100, amount, BOTH), told)

    def test_less_takes_the_hidden_first(self):
        rows = [row(1, "eve", SELL, 100, 8, shown=3)]
        for amount, left, seen in ((1, 7, 3), (4, 4, 3), (5, 3, 3), (6, 2, 2), (7, 1, 1)):
            behind = [row(1, "eve", SELL, 100, left, 1, 3, seen)]
            self.both_rules(rows, (7, "eve", BUY, 100, amount, LESS), ([("less", 1, 7, amount)], behind, 0, False, 100))
        for amount in (8, 9, 500):
            told = ([("less", 1, 7, 8)], [], amount - 8, False, 100)
            self.both_rules(rows, (7, "eve", BUY, 100, amount, LESS), told)

    def test_less_of_a_row_met_in_part(self):
        rows = [row(1, "eve", SELL, 100, 8, 1, 3, 2)]
        for amount, left, seen in ((1, 7, 2), (6, 2, 2), (7, 1, 1)):
            behind = [row(1, "eve", SELL, 100, left, 1, 3, seen)]
            self.both_rules(rows, (7, "eve", BUY, 100, amount, LESS), ([("less", 1, 7, amount)], behind, 0, False, 100))

    def test_less_of_a_row_that_shows_all(self):
        rows = [row(1, "eve", SELL, 100, 8)]
        told = ([("less", 1, 7, 3)], [row(1, "eve", SELL, 100, 5)], 0, False, 100)
        self.both_rules(rows, (7, "eve", BUY, 100, 3, LESS), told)

    def test_less_of_the_most(self):
        rows = [row(1, "eve", SELL, 100, MOST, shown=MOST // 20)]
        told = ([("less", 1, 7, MOST - 1)], [row(1, "eve", SELL, 100, 1, 1, MOST // 20, 1)], 0, False, 100)
        self.both_rules(rows, (7, "eve", BUY, None, MOST - 1, LESS), told)
        self.both_rules(rows, (7, "eve", BUY, None, MOST, LESS), ([("less", 1, 7, MOST)], [], 0, False, 100))

    def test_an_own_row_of_a_price_not_let_by_stays(self):
        rows = [row(1, "ann", SELL, 100, 5), row(2, "eve", SELL, 101, 5)]
        for guard in GUARDS:
            told = ([("trade", 7, 1, 100, 5)], rows[1:], 4, False, 100)
            self.both_rules(rows, (7, "eve", BUY, 100, 9, guard), told)

    def test_an_own_row_not_come_to_stays(self):
        rows = [row(1, "ann", SELL, 100, 5), row(2, "eve", SELL, 101, 5)]
        for guard in GUARDS:
            told = ([("trade", 7, 1, 100, 5)], rows[1:], 0, False, 100)
            self.both_rules(rows, (7, "eve", BUY, None, 5, guard), told)

    def test_own_rows_of_its_own_side_stay(self):
        rows = [row(1, "eve", BUY, 99, 5), row(2, "ann", SELL, 100, 5)]
        for guard in GUARDS:
            told = ([("trade", 7, 2, 100, 5)], rows[:1], 1, False, 100)
            self.both_rules(rows, (7, "eve", BUY, None, 6, guard), told)


AMONG = [
    row(1, "ann", SELL, 99, 4), row(2, "eve", SELL, 100, 6, shown=2), row(3, "bob", SELL, 100, 5),
    row(4, "eve", SELL, 101, 3), row(5, "cid", SELL, 101, 9),
]


class GuardsAmongOthersByRank(PlainCase):
    def check_among(self, amount, guard, events, behind, left):
        self.check(AMONG, (7, "eve", BUY, None, amount, guard), (events, behind, left, False, 100), rule=RANK)

    def test_old(self):
        events = [
            ("trade", 7, 1, 99, 4), ("off", 2, 6, "guard"), ("trade", 7, 3, 100, 5), ("off", 4, 3, "guard"),
            ("trade", 7, 5, 101, 9),
        ]
        self.check_among(4, OLD, events[:1], AMONG[1:], 0)
        self.check_among(5, OLD, events[:2] + [("trade", 7, 3, 100, 1)], [row(3, "bob", SELL, 100, 4)] + AMONG[3:], 0)
        self.check_among(9, OLD, events[:3], AMONG[3:], 0)
        self.check_among(10, OLD, events[:4] + [("trade", 7, 5, 101, 1)], [row(5, "cid", SELL, 101, 8)], 0)
        self.check_among(20, OLD, events, [], 2)

    def test_new(self):
        self.check_among(3, NEW, [("trade", 7, 1, 99, 3)], [row(1, "ann", SELL, 99, 1)] + AMONG[1:], 0)
        self.check_among(4, NEW, [("trade", 7, 1, 99, 4)], AMONG[1:], 0)
        self.check_among(5, NEW, [("trade", 7, 1, 99, 4), ("off", 7, 1, "guard")], AMONG[1:], 0)
        self.check_among(500, NEW, [("trade", 7, 1, 99, 4), ("off", 7, 496, "guard")], AMONG[1:], 0)

    def test_both(self):
        off = ("off", 2, 6, "guard")
        self.check_among(4, BOTH, [("trade", 7, 1, 99, 4)], AMONG[1:], 0)
        self.check_among(5, BOTH, [("trade", 7, 1, 99, 4), off, ("off", 7, 1, "guard")], AMONG[2:], 0)
        self.check_among(500, BOTH, [("trade", 7, 1, 99, 4), off, ("off", 7, 496, "guard")], AMONG[2:], 0)

    def test_less(self):
        first = ("trade", 7, 1, 99, 4)
        self.check_among(7, LESS, [first, ("less", 2, 7, 3)], [row(2, "eve", SELL, 100, 3, 2, 2)] + AMONG[2:], 0)
        self.check_among(9, LESS, [first, ("less", 2, 7, 5)], [row(2, "eve", SELL, 100, 1, 2, 2, 1)] + AMONG[2:], 0)
        self.check_among(10, LESS, [first, ("less", 2, 7, 6)], AMONG[2:], 0)
        events = [first, ("less", 2, 7, 6), ("trade", 7, 3, 100, 5), ("less", 4, 7, 3), ("trade", 7, 5, 101, 2)]
        self.check_among(20, LESS, events, [row(5, "cid", SELL, 101, 7)], 0)

    def test_a_row_behind_the_first_of_its_price_waits_its_turn(self):
        rows = [row(1, "ann", SELL, 100, 4), row(2, "eve", SELL, 100, 6)]
        told = ([("trade", 7, 1, 100, 4), ("off", 7, 1, "guard")], rows[1:], 0, False, 100)
        self.check(rows, (7, "eve", BUY, 100, 5, NEW), told, rule=RANK)

    def test_an_own_row_is_met_again_behind_what_shows_anew(self):
        rows = [row(1, "ann", SELL, 100, 4, shown=2), row(2, "eve", SELL, 100, 6)]
        events = [("trade", 7, 1, 100, 2), ("shown", 1, 2), ("off", 2, 6, "guard"), ("trade", 7, 1, 100, 2)]
        self.check(rows, (7, "eve", BUY, 100, 9, OLD), (events, [], 5, False, 101), rule=RANK)


class GuardsAmongOthersByShare(PlainCase):
    def check_share(self, rows, coming, events, behind, left, rank=100):
        self.check(rows, coming, (events, behind, left, False, rank), rule=SHARE)

    def test_the_guard_goes_ahead_of_trades_wherever_the_row_stands(self):
        first, second, own = row(1, "ann", SELL, 100, 4), row(2, "bob", SELL, 100, 6), row(3, "eve", SELL, 100, 5)
        for ranks in itertools.permutations((1, 2, 3)):
            rows = [one[:7] + (rank,) for one, rank in zip((first, second, own), ranks)]
            stand = sorted(rows, key=lambda one: one[7])
            others = [one for one in stand if one[1] != "eve"]
            traded = [("trade", 7, one[0], 100, one[5]) for one in others]
            self.check_share(rows, (7, "eve", BUY, 100, 10, OLD), [("off", 3, 5, "guard")] + traded, [], 0)
            self.check_share(rows, (7, "eve", BUY, 100, 10, NEW), [("off", 7, 10, "guard")], stand, 0)
            events = [("off", 3, 5, "guard"), ("off", 7, 10, "guard")]
            self.check_share(rows, (7, "eve", BUY, 100, 10, BOTH), events, others, 0)
            self.check_share(rows, (7, "eve", BUY, 100, 15, LESS), [("less", 3, 7, 5)] + traded, [], 0)
            self.check_share(rows, (7, "eve", BUY, 100, 5, LESS), [("less", 3, 7, 5)], others, 0)

    def test_one_own_row_a_step_the_first_by_rank(self):
        rows = [
            row(1, "eve", SELL, 100, 4, 9), row(2, "bob", SELL, 100, 6, 5), row(3, "eve", SELL, 100, 5, 7),
            row(4, "eve", SELL, 101, 5, 1),
        ]
        events = [("off", 3, 5, "guard"), ("off", 1, 4, "guard"), ("trade", 7, 2, 100, 6), ("off", 4, 5, "guard")]
        self.check_share(rows, (7, "eve", BUY, None, 8, OLD), events, [], 2)
        self.check_share(rows, (7, "eve", BUY, None, 6, OLD), events[:3], rows[3:], 0)
        events = [("off", 3, 5, "guard"), ("off", 7, 8, "guard")]
        self.check_share(rows, (7, "eve", BUY, None, 8, BOTH), events, [rows[1], rows[0], rows[3]], 0)
        events = [("less", 3, 7, 5), ("less", 1, 7, 3)]
        behind = [rows[1], row(1, "eve", SELL, 100, 1, 9), rows[3]]
        self.check_share(rows, (7, "eve", BUY, None, 8, LESS), events, behind, 0)

    def test_rows_of_a_price_further_on_do_not_ask_yet(self):
        events = [("trade", 7, 1, 99, 4), ("off", 7, 1, "guard")]
        self.check_share(AMONG, (7, "eve", BUY, None, 5, NEW), events, AMONG[1:], 0)
        self.check_share(AMONG, (7, "eve", BUY, None, 4, NEW), events[:1], AMONG[1:], 0)


class Bands(PlainCase):
    def both_rules(self, rows, coming, told, band, anchor):
        for rule in RULES:
            self.check(rows, coming, told, rule=rule, band=band, anchor=anchor)

    def test_near_enough(self):
        rows = [row(1, "ann", SELL, 100, 5)]
        for band, anchors in ((0, [100]), (1, [99, 100, 101]), (3, [97, 98, 102, 103]), (1000000, [1, 199])):
            for anchor in anchors:
                told = ([("trade", 7, 1, 100, 2)], [row(1, "ann", SELL, 100, 3)], 0, False, 100)
                self.both_rules(rows, (7, "eve", BUY, None, 2, OLD), told, band, anchor)

    def test_halts_in_the_first_step(self):
        rows = [row(1, "ann", SELL, 100, 5)]
        for band, anchors in ((0, [99, 101]), (1, [98, 102]), (3, [96, 104, 1, 199])):
            for anchor in anchors:
                for owner in ("eve", "ann"):
                    for guard in GUARDS:
                        coming = (7, owner, BUY, None, 2, guard)
                        self.both_rules(rows, coming, ([], rows, 2, True, 100), band, anchor)

    def test_halts_later(self):
        rows = [row(1, "ann", SELL, 100, 5, shown=2), row(2, "bob", SELL, 101, 5)]
        events = [("trade", 7, 1, 100, 2), ("shown", 1, 2), ("trade", 7, 1, 100, 2), ("shown", 1, 1)]
        events.append(("trade", 7, 1, 100, 1))
        for left in (1, 3):
            told = (events, rows[1:], left, True, 102)
            self.both_rules(rows, (7, "eve", BUY, None, 5 + left, OLD), told, 0, 100)
            self.both_rules(rows, (7, "eve", BUY, 101, 5 + left, OLD), told, 2, 98)

    def test_nothing_left_where_it_would_halt(self):
        rows = [row(1, "ann", SELL, 100, 5), row(2, "bob", SELL, 101, 5)]
        told = ([("trade", 7, 1, 100, 5)], rows[1:], 0, False, 100)
        self.both_rules(rows, (7, "eve", BUY, None, 5, OLD), told, 0, 100)

    def test_no_row_let_by_where_it_would_halt(self):
        rows = [row(1, "ann", SELL, 100, 5), row(2, "bob", SELL, 101, 5)]
        told = ([("trade", 7, 1, 100, 5)], rows[1:], 2, False, 100)
        self.both_rules(rows, (7, "eve", BUY, 100, 7, OLD), told, 0, 100)

    def test_taken_off_ahead_of_where_it_would_halt(self):
        rows = [row(1, "eve", SELL, 100, 5), row(2, "bob", SELL, 101, 5)]
        self.both_rules(rows, (7, "eve", BUY, None, 7, NEW), ([("off", 7, 7, "guard")], rows, 0, False, 100), 0, 100)
        told = ([("off", 1, 5, "guard")], rows[1:], 7, True, 100)
        self.both_rules(rows, (7, "eve", BUY, None, 7, OLD), told, 0, 100)
        told = ([("less", 1, 7, 5)], rows[1:], 2, True, 100)
        self.both_rules(rows, (7, "eve", BUY, None, 7, LESS), told, 0, 100)
        told = ([("less", 1, 7, 5)], rows[1:], 0, False, 100)
        self.both_rules(rows, (7, "eve", BUY, None, 5, LESS), told, 0, 100)

    def test_too_near_a_price_is_no_halt_on_either_side(self):
        # A price better than the anchor can lie too far as well.
        rows = [row(1, "ann", SELL, 90, 5), row(2, "bob", SELL, 100, 5)]
        self.both_rules(rows, (7, "eve", BUY, None, 2, OLD), ([], rows, 2, True, 100), 9, 100)

    def test_an_anchor_without_a_band(self):
        rows = [row(1, "ann", SELL, 100, 5)]
        self.both_rules(rows, (7, "eve", BUY, None, 5, OLD), ([("trade", 7, 1, 100, 5)], [], 0, False, 100), None, 1)


class ByShare(PlainCase):
    def check_share(self, rows, amount, events, behind, left, rank=100):
        self.check(rows, (7, "eve", BUY, 100, amount, OLD), (events, behind, left, False, rank), rule=SHARE)

    def trades(self, *amounts):
        return [("trade", 7, number, 100, amount) for number, amount in enumerate(amounts, 1) if amount]

    def test_even_shares(self):
        rows = [row(1, "ann", SELL, 100, 10), row(2, "bob", SELL, 100, 20), row(3, "cid", SELL, 100, 30)]
        for step in range(1, 6):
            behind = [row(number, rows[number - 1][1], SELL, 100, (10 - step) * number) for number in (1, 2, 3)]
            self.check_share(rows, 6 * step, self.trades(step, 2 * step, 3 * step), behind, 0)

    def test_one_more_each_by_rank(self):
        rows = [row(1, "ann", SELL, 100, 10), row(2, "bob", SELL, 100, 10), row(3, "cid", SELL, 100, 10)]
        for amount, shared in (
            (1, (1, 0, 0)), (2, (1, 1, 0)), (3, (1, 1, 1)), (4, (2, 1, 1)), (5, (2, 2, 1)), (29, (10, 10, 9)),
        ):
            names = ("ann", "bob", "cid")
            behind = [row(at + 1, names[at], SELL, 100, 10 - shared[at]) for at in range(3) if shared[at] < 10]
            self.check_share(rows, amount, self.trades(*shared), behind, 0)

    def test_one_more_goes_by_rank_not_by_the_greatest_rest(self):
        # 5 of 12: 5 * 1 / 12 = 0, 5 * 4 / 12 = 1 and 8 parts, 5 * 7 / 12 = 2 and 11 parts; 2 more to deal.
        rows = [row(1, "ann", SELL, 100, 1), row(2, "bob", SELL, 100, 4), row(3, "cid", SELL, 100, 7)]
        behind = [row(2, "bob", SELL, 100, 2), row(3, "cid", SELL, 100, 5)]
        self.check_share(rows, 5, self.trades(1, 2, 2), behind, 0)

    def test_one_more_also_to_a_share_that_came_out_even(self):
        # 3 of 12: 3 * 4 / 12 = 1 to the full, 3 * 6 / 12 = 1 and 6 parts, 3 * 2 / 12 = 6 parts; 1 more to deal.
        rows = [row(1, "ann", SELL, 100, 4), row(2, "bob", SELL, 100, 6), row(3, "cid", SELL, 100, 2)]
        behind = [row(1, "ann", SELL, 100, 2), row(2, "bob", SELL, 100, 5), rows[2]]
        self.check_share(rows, 3, self.trades(2, 1, 0), behind, 0)

    def test_by_rank_not_by_number(self):
        rows = [row(1, "ann", SELL, 100, 10, 9), row(2, "bob", SELL, 100, 10, 4)]
        events = [("trade", 7, 2, 100, 2), ("trade", 7, 1, 100, 1)]
        behind = [row(2, "bob", SELL, 100, 8, 4), row(1, "ann", SELL, 100, 9, 9)]
        self.check_share(rows, 3, events, behind, 0)

    def test_by_what_is_seen_not_by_what_is_left(self):
        rows = [row(1, "ann", SELL, 100, 40, shown=2), row(2, "bob", SELL, 100, 6)]
        behind = [row(1, "ann", SELL, 100, 39, 1, 2, 1), row(2, "bob", SELL, 100, 3)]
        self.check_share(rows, 4, self.trades(1, 3), behind, 0)

    def test_as_much_as_is_seen(self):
        rows = [row(1, "ann", SELL, 100, 8, shown=3), row(2, "bob", SELL, 100, 5)]
        events = self.trades(3, 5) + [("shown", 1, 3)]
        self.check_share(rows, 8, events, [row(1, "ann", SELL, 100, 5, 100, 3)], 0, 101)

    def test_more_than_is_seen_goes_on_with_what_shows_anew(self):
        rows = [row(1, "ann", SELL, 100, 8, shown=3), row(2, "bob", SELL, 100, 10, shown=5)]
        events = self.trades(3, 5) + [("shown", 1, 3), ("shown", 2, 5)] + self.trades(2, 2)
        behind = [row(1, "ann", SELL, 100, 3, 100, 3, 1), row(2, "bob", SELL, 100, 3, 101, 5, 3)]
        self.check_share(rows, 12, events, behind, 0, 102)
        events = events[:4] + self.trades(3, 5) + [("shown", 1, 2)] + self.trades(2)
        self.check_share(rows, 20, events, [], 2, 103)

    def test_shown_anew_behind_all_trades_by_the_ranks_they_had(self):
        rows = [
            row(1, "ann", SELL, 100, 8, 30, 3), row(2, "bob", SELL, 100, 9, 10, 4), row(3, "cid", SELL, 100, 5, 20),
            row(4, "dan", SELL, 100, 7, 40, 1),
        ]
        events = [
            ("trade", 7, 2, 100, 4), ("trade", 7, 3, 100, 5), ("trade", 7, 1, 100, 3), ("trade", 7, 4, 100, 1),
            ("shown", 2, 4), ("shown", 1, 3), ("shown", 4, 1),
        ]
        behind = [
            row(2, "bob", SELL, 100, 5, 41, 4), row(1, "ann", SELL, 100, 5, 42, 3), row(4, "dan", SELL, 100, 6, 43, 1),
        ]
        self.check(rows, (7, "eve", BUY, 100, 13, OLD), (events, behind, 0, False, 44), rank=41, rule=SHARE)

    def test_a_share_may_leave_nothing_seen(self):
        rows = [row(1, "ann", SELL, 100, 2, shown=1), row(2, "bob", SELL, 100, 1), row(3, "cid", SELL, 100, 9)]
        events = self.trades(1, 1, 7) + [("shown", 1, 1)]
        behind = [row(3, "cid", SELL, 100, 2), row(1, "ann", SELL, 100, 1, 100, 1)]
        self.check_share(rows, 9, events, behind, 0, 101)

    def test_price_by_price(self):
        rows = [row(1, "ann", SELL, 99, 4), row(2, "bob", SELL, 100, 4), row(3, "cid", SELL, 99, 4)]
        events = [("trade", 7, 1, 99, 4), ("trade", 7, 3, 99, 4), ("trade", 7, 2, 100, 1)]
        self.check_share(rows, 9, events, [row(2, "bob", SELL, 100, 3)], 0)
        self.check_share(rows, 3, [("trade", 7, 1, 99, 2), ("trade", 7, 3, 99, 1)], [
            row(1, "ann", SELL, 99, 2), row(3, "cid", SELL, 99, 3), rows[1],
        ], 0)

    def test_the_most(self):
        rows = [row(number, "ann", SELL, 100, MOST) for number in (1, 2, 3)]
        shared = (333333334, 333333333, 333333333)
        behind = [row(at + 1, "ann", SELL, 100, MOST - shared[at]) for at in range(3)]
        self.check_share(rows, MOST, self.trades(*shared), behind, 0)
        rows = [row(1, "ann", SELL, 100, MOST), row(2, "bob", SELL, 100, 1)]
        self.check_share(rows, MOST, self.trades(MOST), rows[1:], 0)
        self.check_share(rows, MOST - 1, self.trades(MOST - 1), [row(1, "ann", SELL, 100, 1), rows[1]], 0)
        rows = [row(1, "bob", SELL, 100, 1), row(2, "ann", SELL, 100, MOST)]
        self.check_share(rows, MOST, self.trades(1, MOST - 1), [row(2, "ann", SELL, 100, 1)], 0)


class Shares(unittest.TestCase):
    def test_dealt_out_to_the_last_and_none_above_what_is_seen(self):
        for seen in itertools.product(range(1, 6), repeat=3):
            for left in range(1, sum(seen) + 3):
                dealt = shares(left, list(seen))
                self.assertEqual(sum(dealt), min(left, sum(seen)))
                for part, most in zip(dealt, seen):
                    self.assertTrue(0 <= part <= most)
                if left < sum(seen):
                    for part, most in zip(dealt, seen):
                        self.assertIn(part - left * most // sum(seen), (0, 1))

    def test_a_new_list(self):
        seen = [1, 2]
        shares(9, seen).append(3)
        self.assertEqual(seen, [1, 2])


class Told(unittest.TestCase):
    def test_what_is_handed_in_stays(self):
        for rows, coming, more in cases(1, 200):
            kept = list(rows), tuple(coming), dict(more)
            answer = plain_meet(rows, coming, **more)
            self.assertEqual((rows, coming, more), kept)
            self.assertIsNot(answer[1], rows)

    def test_told_lists_are_the_askers_own(self):
        for rows, coming, more in cases(2, 100):
            first = plain_meet(rows, coming, **more)
            second = plain_meet(rows, coming, **more)
            first[0].append("x")
            first[1].append("x")
            self.assertEqual(plain_meet(rows, coming, **more), second)

    def test_by_name(self):
        rows = [row(1, "ann", SELL, 100, 5)]
        coming = (7, "eve", BUY, 100, 5, OLD)
        told = ([], rows, 5, True, 3)
        self.assertEqual(plain_meet(rule=RANK, anchor=98, coming=coming, band=1, rows=rows, rank=3), told)
        self.assertEqual(plain_meet(rows, coming, band=1, rule=RANK, rank=3, anchor=98), told)

    def test_by_name_alone(self):
        rows, coming = [row(1, "ann", SELL, 100, 5)], (7, "eve", BUY, 100, 5, OLD)
        with self.assertRaises(TypeError):
            plain_meet(rows, coming, 3)
        with self.assertRaises(TypeError):
            plain_meet(rows, coming)


class AgainstTheOracle(unittest.TestCase):
    def both(self, rows, coming, more):
        answer = plain_meet(rows, coming, **more)
        told = oracle_meet(rows, coming, **more)
        self.assertTrue(alike(answer, told), (rows, coming, more, answer, told))
        return answer

    def test_many_made(self):
        halts = offs = lesses = shows = 0
        for rows, coming, more in cases(3, 3000):
            events, behind, left, halted, rank = self.both(rows, coming, more)
            halts += halted
            kinds = [event[0] for event in events]
            offs += "off" in kinds
            lesses += "less" in kinds
            shows += "shown" in kinds
            self.check_amounts(rows, coming, events, behind, left)
            self.assertEqual(rank, more["rank"] + kinds.count("shown"))
        for many in (halts, offs, lesses, shows):
            self.assertGreater(many, 50)

    def check_amounts(self, rows, coming, events, behind, left):
        """Point 3: of each order the amount is what was traded, what is left and what was taken off."""
        first = {one[0]: one[5] for one in rows}
        first[coming[0]] = coming[4]
        last = {one[0]: one[5] for one in behind}
        last[coming[0]] = left
        self.assertEqual(len(last), len(behind) + 1)
        gone = dict.fromkeys(first, 0)
        for event in events:
            if event[0] == "trade":
                gone[event[1]] += event[4]
                gone[event[2]] += event[4]
            elif event[0] == "off":
                gone[event[1]] += event[2]
            elif event[0] == "less":
                gone[event[1]] += event[3]
                gone[event[2]] += event[3]
        self.assertEqual({number: last.get(number, 0) + gone[number] for number in first}, first)
        for one in behind:
            self.assertTrue(1 <= one[6] <= one[5], one)

    def test_sides_that_meet_and_many_amounts(self):
        for rows, coming, more in cases(4, 500, apart=False, most=MOST):
            self.both(rows, coming, more)
            self.both(rows, coming[:4] + (MOST,) + coming[5:], more)

    def test_each_guard_and_rule(self):
        for rows, coming, more in cases(5, 150, most_rows=6, owners=("ann", "eve")):
            for side, guard, rule in itertools.product(SIDES, GUARDS, RULES):
                made = (coming[0], "eve", side, None, coming[4], guard)
                self.both(rows, made, {**more, "rule": rule})


class Soon(unittest.TestCase):
    def test_fourteen_rows_with_shown_parts(self):
        left = MOST // 280 * 20
        rows = [row(number, "ann", SELL, 100, left, shown=left // 20) for number in range(14)]
        for rule in RULES:
            begun = time.process_time()
            answer = plain_meet(rows, (20, "eve", BUY, None, MOST, OLD), rank=20, rule=rule)
            self.assertLess(time.process_time() - begun, 1)
            self.assertEqual(answer[1:], ([], MOST - 14 * left, False, 20 + 14 * 19))
            self.assertEqual(len(answer[0]), 14 * 39)

    def test_some_hundred_rows(self):
        rows = [row(number, "ann", SELL, 100 + number // 50, 1000, shown=100) for number in range(400)]
        for rule in RULES:
            begun = time.process_time()
            answer = plain_meet(rows, (900, "eve", BUY, None, 399990, OLD), rank=900, rule=rule)
            self.assertLess(time.process_time() - begun, 1)
            self.assertEqual(answer[2:], (0, False, 900 + 400 * 9))


if __name__ == "__main__":
    unittest.main()
