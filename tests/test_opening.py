"""Points 10 and 11: the opening of a thing, its price, and what can be dealt at most."""

import itertools
import random
import time
import unittest

from anything import alike
from made import MOST, SIDES, next_rank, row, some_rows
from ringhall.opening import opening, paired_off, price_of, table, worth
from ringhall.orders import ranked
from ringhall.words import BUY, SELL

HIGHEST = 1000000


def demand_of(rows, price):
    """What buys of the price or higher have left."""
    return sum(one[5] for one in rows if one[2] == BUY and one[3] >= price)


def supply_of(rows, price):
    """What sells of the price or lower have left."""
    return sum(one[5] for one in rows if one[2] == SELL and one[3] <= price)


def told_price(rows, last):
    """The price and the volume as point 10 words it, from all prices that may matter."""
    # Below and above all rows there is no volume.
    prices = range(min(one[3] for one in rows), max(one[3] for one in rows) + 1) if rows else []
    sums = [(price, demand_of(rows, price), supply_of(rows, price)) for price in prices]
    most = max([min(demand, supply) for _, demand, supply in sums], default=0)
    if most == 0:
        return None, 0
    sums = [one for one in sums if min(one[1], one[2]) == most]
    least = min(abs(demand - supply) for _, demand, supply in sums)
    sums = [one for one in sums if abs(one[1] - one[2]) == least]
    wanted = [price for price, demand, supply in sums if demand > supply]
    offered = [price for price, demand, supply in sums if demand < supply]
    if len(wanted) == len(sums):
        return max(wanted), most
    if len(offered) == len(sums):
        return min(offered), most
    if len(wanted) + len(offered) == len(sums):
        return min((max(wanted), min(offered)), key=lambda price: abs(price - last)), most
    return min([price for price, _, _ in sums], key=lambda price: abs(price - last)), most


def buys_and_sells(buys, sells):
    """Rows of (price, left), buys first, numbered and ranked in their order."""
    rows = [row(number, "ann", BUY, price, left) for number, (price, left) in enumerate(buys)]
    return rows + [row(number, "bob", SELL, price, left) for number, (price, left) in enumerate(sells, len(rows))]


def made_rows(seed, many=10, **bounds):
    """Rows of both sides that may meet."""
    chance = random.Random(seed)
    return some_rows(chance, chance.randint(0, many), apart=False, **bounds)


class Table(unittest.TestCase):
    def check(self, rows, told):
        for orders in (rows, rows[::-1]):
            kept = list(orders)
            self.assertTrue(alike(table(orders), told), table(orders))
            self.assertEqual(orders, kept)

    def test_no_rows(self):
        self.check([], [])

    def test_one_side_alone(self):
        self.check(buys_and_sells([(5, 10), (7, 20), (5, 1)], []), [(5, 31, 0), (7, 20, 0)])
        self.check(buys_and_sells([], [(5, 10), (7, 20), (5, 1)]), [(5, 0, 11), (7, 0, 31)])

    def test_both_sides(self):
        rows = buys_and_sells([(9, 4), (7, 3), (9, 1)], [(6, 2), (7, 6), (12, 5)])
        self.check(rows, [(6, 8, 2), (7, 8, 8), (9, 5, 8), (12, 0, 13)])

    def test_rows_that_do_not_meet(self):
        self.check(buys_and_sells([(5, 10)], [(6, 7)]), [(5, 10, 0), (6, 0, 7)])

    def test_one_price_of_both_once(self):
        self.check(buys_and_sells([(5, 10), (5, 2)], [(5, 7), (5, 1)]), [(5, 12, 8)])

    def test_bounds(self):
        rows = buys_and_sells([(HIGHEST, MOST), (1, MOST)], [(1, MOST), (HIGHEST, 1)])
        self.check(rows, [(1, 2 * MOST, MOST), (HIGHEST, MOST, MOST + 1)])

    def test_what_is_left_counts_not_what_is_seen(self):
        rows = [row(1, "ann", BUY, 5, 40, shown=2), row(2, "bob", SELL, 5, 30, 2, 3, 1)]
        self.check(rows, [(5, 40, 30)])

    def test_many_made(self):
        for seed in range(300):
            rows = made_rows(seed)
            prices = sorted({one[3] for one in rows})
            self.check(rows, [(price, demand_of(rows, price), supply_of(rows, price)) for price in prices])

    def test_a_new_list(self):
        rows = buys_and_sells([(5, 10)], [(4, 7)])
        told = table(rows)
        told.append("x")
        told[0] = "y"
        self.check(rows, [(4, 10, 7), (5, 10, 7)])

    def test_by_name(self):
        self.assertEqual(table(rows=buys_and_sells([(5, 10)], [])), [(5, 10, 0)])


class PriceOf(unittest.TestCase):
    def check(self, buys, sells, *told):
        """Of each (last, price, volume) the price and the volume."""
        steps = table(buys_and_sells(buys, sells))
        kept = list(steps)
        for last, price, volume in told:
            with self.subTest(last=last):
                self.assertTrue(alike(price_of(steps, last), (price, volume)), price_of(steps, last))
                self.assertEqual(steps, kept)

    def test_no_rows(self):
        self.assertTrue(alike(price_of([], 5), (None, 0)))

    def test_no_volume(self):
        for buys, sells in (
            ([(5, 10), (7, 1)], []), ([], [(5, 10), (7, 1)]), ([(5, 10)], [(6, 7)]), ([(1, 1)], [(HIGHEST, 1)]),
        ):
            self.check(buys, sells, *[(last, None, 0) for last in (1, 5, 6, HIGHEST)])

    def test_the_most_volume(self):
        # At 5 there is 3, at 6 to 8 there is 6, at 9 there is 4.
        buys, sells = [(9, 4), (8, 4)], [(5, 3), (6, 3), (9, 1)]
        for last in (1, 5, 7, 9, HIGHEST):
            self.check(buys, sells, (last, 8, 6))

    def test_the_least_difference(self):
        # Volume 5 from 10 to 30: demand 9 from 10 to 20, 6 above.
        buys, sells = [(20, 3), (30, 6)], [(10, 5), (40, 7)]
        for last in (1, 10, 20, 21, 25, 30, 40, HIGHEST):
            self.check(buys, sells, (last, 30, 5))
        # Volume 5 from 10 to 30: supply 6 from 10 to 19, 9 from 20.
        buys, sells = [(30, 5), (5, 7)], [(10, 6), (20, 3)]
        for last in (1, 10, 19, 20, 25, 30, 40, HIGHEST):
            self.check(buys, sells, (last, 10, 5))

    def test_demand_more_at_all_is_the_highest(self):
        for last in (1, 9, 10, 15, 20, 21, HIGHEST):
            self.check([(20, 6)], [(10, 5)], (last, 20, 5))
            self.check([(20, 6)], [(10, 5), (21, 9)], (last, 20, 5))

    def test_supply_more_at_all_is_the_lowest(self):
        for last in (1, 9, 10, 15, 20, 21, HIGHEST):
            self.check([(20, 5)], [(10, 6)], (last, 10, 5))
            self.check([(20, 5), (9, 9)], [(10, 6)], (last, 10, 5))

    def test_as_much_of_both_only_between_prices_of_rows(self):
        # Demand is 7 to 20 and 5 above, supply 5 from 10 and 7 from 30: volume 5, the difference 0 from 21 to 29.
        buys, sells = [(20, 2), (40, 5)], [(10, 5), (30, 2)]
        self.check(buys, sells, (1, 21, 5), (21, 21, 5), (25, 25, 5), (29, 29, 5), (30, 29, 5), (HIGHEST, 29, 5))

    def test_demand_more_at_some_supply_more_at_the_others(self):
        # Of one price more is bought, and just as much more is sold at the next.
        buys, sells = [(20, 3), (40, 5)], [(10, 5), (21, 3)]
        told = [(last, 20, 5) for last in (1, 10, 15, 20)] + [(last, 21, 5) for last in (21, 25, 40, HIGHEST)]
        self.check(buys, sells, *told)

    def test_such_prices_at_both_bounds(self):
        buys, sells = [(HIGHEST, 5), (1, 3)], [(1, 5), (2, 3)]
        self.check(buys, sells, (1, 1, 5), (2, 2, 5), (3, 2, 5), (HIGHEST, 2, 5))
        buys, sells = [(HIGHEST, 5), (999998, 3)], [(1, 5), (999999, 3)]
        self.check(buys, sells, (1, 999998, 5), (999998, 999998, 5), (999999, 999999, 5), (HIGHEST, 999999, 5))

    def test_as_much_of_both_is_the_nearest(self):
        told = [(1, 10, 5), (9, 10, 5), (10, 10, 5), (11, 11, 5), (15, 15, 5), (19, 19, 5), (20, 20, 5), (21, 20, 5)]
        self.check([(20, 5)], [(10, 5)], *told, (HIGHEST, 20, 5))
        self.check([(20, 5), (9, 7)], [(10, 5), (21, 8)], *told, (HIGHEST, 20, 5))
        self.check([(20, 2), (25, 3)], [(7, 4), (10, 1)], *told, (HIGHEST, 20, 5))

    def test_as_much_of_both_at_some_only(self):
        # Volume 5 from 10 to 20, as much of both from 13 to 17.
        buys, sells = [(12, 2), (20, 5)], [(10, 5), (18, 4)]
        told = [(1, 13, 5), (12, 13, 5), (13, 13, 5), (15, 15, 5), (17, 17, 5), (18, 17, 5), (HIGHEST, 17, 5)]
        self.check(buys, sells, *told)

    def test_one_price(self):
        for last in (1, 5, 9):
            self.check([(5, 3)], [(5, 4)], (last, 5, 3))
            self.check([(5, 4)], [(5, 3)], (last, 5, 3))
            self.check([(5, 3)], [(5, 3)], (last, 5, 3))

    def test_bounds(self):
        told = [(1, 1, MOST), (2, 2, MOST), (500000, 500000, MOST), (999999, 999999, MOST), (HIGHEST, HIGHEST, MOST)]
        self.check([(HIGHEST, MOST)], [(1, MOST)], *told)
        for last in (1, 500000, HIGHEST):
            self.check([(HIGHEST, MOST)], [(1, MOST - 1)], (last, HIGHEST, MOST - 1))
            self.check([(HIGHEST, MOST - 1)], [(1, MOST)], (last, 1, MOST - 1))
            self.check([(1, MOST)], [(1, MOST)], (last, 1, MOST))
            self.check([(HIGHEST, MOST)], [(HIGHEST, MOST)], (last, HIGHEST, MOST))

    def test_many_made(self):
        seen = set()
        for seed in range(1500):
            rows = made_rows(seed, 7, most=4, low=97, high=103)
            for last in (90, 97, 99, 100, 101, 103, 110):
                told = told_price(rows, last)
                self.assertTrue(alike(price_of(table(rows), last), told), (rows, last))
                seen.add(told)
        self.assertGreater(len(seen), 50)

    def test_each_small_set_of_rows(self):
        kinds = [(side, price, left) for side in SIDES for price in (2, 4, 5) for left in (1, 2)]
        for parts in itertools.combinations_with_replacement(kinds, 4):
            rows = [row(number, "ann", *part) for number, part in enumerate(parts)]
            for last in (1, 3, 6):
                self.assertEqual(price_of(table(rows), last), told_price(rows, last), (rows, last))

    def test_by_name(self):
        self.assertEqual(price_of(last=15, steps=[(10, 5, 5), (20, 5, 5)]), (15, 5))


class Opening(unittest.TestCase):
    def check(self, rows, last, rank, told):
        for orders in (rows, rows[::-1], rows[1:] + rows[:1]):
            kept = list(orders)
            answer = opening(orders, last, rank=rank)
            self.assertTrue(alike(answer, told), answer)
            self.assertEqual(orders, kept)

    def test_no_rows(self):
        self.check([], 5, 3, (None, 0, [], [], 3))

    def test_no_volume(self):
        rows = [row(1, "ann", BUY, 5, 40, shown=4), row(2, "bob", SELL, 6, 7), row(3, "cid", BUY, 4, 7)]
        self.check(rows, 5, 9, (None, 0, [], [rows[0], rows[2], rows[1]], 9))
        self.check(rows[:1], 5, 9, (None, 0, [], rows[:1], 9))

    def test_first_with_first(self):
        rows = [
            row(1, "ann", BUY, 12, 5, 8), row(2, "bob", BUY, 12, 3, 4), row(3, "cid", BUY, 13, 4, 9),
            row(4, "dan", SELL, 10, 6, 7), row(5, "eve", SELL, 9, 2, 6), row(6, "fay", SELL, 10, 3, 5),
            row(7, "gus", BUY, 9, 50, 2), row(8, "hal", SELL, 14, 60, 3),
        ]
        events = [
            ("trade", 3, 5, 12, 2), ("trade", 3, 6, 12, 2), ("trade", 2, 6, 12, 1), ("trade", 2, 4, 12, 2),
            ("trade", 1, 4, 12, 4),
        ]
        behind = [row(1, "ann", BUY, 12, 1, 8), rows[6], rows[7]]
        for last in (1, 11, 14):
            self.check(rows, last, 10, (12, 11, events, behind, 10))

    def test_both_sides_come_out_even(self):
        rows = buys_and_sells([(20, 5), (18, 4)], [(10, 3), (11, 6)])
        events = [("trade", 0, 2, 15, 3), ("trade", 0, 3, 15, 2), ("trade", 1, 3, 15, 4)]
        self.check(rows, 15, 4, (15, 9, events, [], 4))

    def test_an_owner_may_deal_with_themself(self):
        rows = [row(1, "ann", BUY, 5, 3), row(2, "ann", SELL, 5, 3)]
        self.check(rows, 5, 3, (5, 3, [("trade", 1, 2, 5, 3)], [], 3))

    def test_what_is_seen_goes_first(self):
        rows = [row(1, "ann", BUY, 5, 40, shown=10), row(2, "bob", SELL, 5, 7)]
        behind = [row(1, "ann", BUY, 5, 33, 1, 10, 3)]
        self.check(rows, 5, 3, (5, 7, [("trade", 1, 2, 5, 7)], behind, 3))

    def test_shows_anew_once_behind_all(self):
        for many, left, seen in ((10, 30, 10), (11, 29, 10), (29, 11, 10), (30, 10, 10), (33, 7, 7), (39, 1, 1)):
            rows = [row(1, "ann", BUY, 5, 40, shown=10), row(2, "bob", SELL, 5, many)]
            events = [("trade", 1, 2, 5, many), ("shown", 1, seen)]
            behind = [row(1, "ann", BUY, 5, left, 3, 10, seen)]
            self.check(rows, 5, 3, (5, many, events, behind, 4))

    def test_one_met_in_part_shows_anew_by_what_is_seen(self):
        rows = [row(1, "ann", SELL, 5, 40, 1, 10, 3), row(2, "bob", BUY, 5, 4)]
        events = [("trade", 2, 1, 5, 4), ("shown", 1, 10)]
        self.check(rows, 5, 3, (5, 4, events, [row(1, "ann", SELL, 5, 36, 3, 10)], 4))

    def test_shown_parts_do_not_change_who_deals(self):
        rows = [
            row(1, "ann", BUY, 5, 40, shown=10), row(2, "bob", BUY, 5, 10), row(3, "cid", SELL, 5, 45),
        ]
        events = [("trade", 1, 3, 5, 40), ("trade", 2, 3, 5, 5)]
        self.check(rows, 5, 4, (5, 45, events, [row(2, "bob", BUY, 5, 5)], 4))

    def test_one_side_is_dealt_wholly_of_the_other_one_row_shows_anew(self):
        for first, second in ((2, 5), (5, 2)):
            rows = [
                row(1, "ann", BUY, 5, 40, first, 4), row(2, "bob", SELL, 4, 8, 0), row(3, "cid", SELL, 6, 9, 1),
                row(4, "dan", SELL, 5, 60, second, 5),
            ]
            events = [("trade", 1, 2, 5, 8), ("trade", 1, 4, 5, 32), ("shown", 4, 5)]
            behind = [row(4, "dan", SELL, 5, 28, 7, 5), rows[2]]
            self.check(rows, 5, 7, (5, 40, events, behind, 8))

    def test_by_no_guard_and_no_owner(self):
        rows = [row(1, "ann", BUY, 9, 3), row(2, "ann", SELL, 8, 2), row(3, "bob", SELL, 9, 1)]
        events = [("trade", 1, 2, 9, 2), ("trade", 1, 3, 9, 1)]
        self.check(rows, 1, 4, (9, 3, events, [], 4))

    def test_bounds(self):
        rows = [row(1, "ann", BUY, HIGHEST, MOST, shown=MOST // 20), row(2, "bob", SELL, 1, MOST)]
        self.check(rows, 1, 3, (1, MOST, [("trade", 1, 2, 1, MOST)], [], 3))
        self.check(rows, HIGHEST, 3, (HIGHEST, MOST, [("trade", 1, 2, HIGHEST, MOST)], [], 3))

    def test_a_new_list(self):
        rows = buys_and_sells([(5, 1)], [])
        told = opening(rows, 5, rank=2)
        told[3].append("x")
        told[2].append("x")
        self.check(rows, 5, 2, (None, 0, [], rows, 2))

    def test_by_name_and_by_name_alone(self):
        rows = buys_and_sells([(5, 1)], [(5, 1)])
        self.assertEqual(opening(rank=2, last=5, rows=rows), (5, 1, [("trade", 0, 1, 5, 1)], [], 2))
        with self.assertRaises(TypeError):
            opening(rows, 5, 2)
        with self.assertRaises(TypeError):
            opening(rows, 5)


class MadeOpenings(unittest.TestCase):
    def check_trades(self, rows, price, volume, events):
        """The trades go first with first, in their order, till the volume is dealt; tells what each deals."""
        better_first = ranked(rows)
        buys = [one for one in better_first if one[2] == BUY]
        sells = [one for one in better_first if one[2] == SELL]
        left = {one[0]: one[5] for one in rows}
        trades = [event for event in events if event[0] == "trade"]
        for trade in trades:
            buy = [one for one in buys if left[one[0]] > 0][0]
            sell = [one for one in sells if left[one[0]] > 0][0]
            amount = min(left[buy[0]], left[sell[0]])
            self.assertEqual(trade, ("trade", buy[0], sell[0], price, amount))
            self.assertTrue(buy[3] >= price >= sell[3])
            left[buy[0]] -= amount
            left[sell[0]] -= amount
        self.assertEqual(sum(trade[4] for trade in trades), volume)
        return trades, left

    def check_behind(self, rows, left, events, behind, rank):
        """What shows anew, by ranks, and what stands."""
        shown, stand = [], []
        for one in sorted(rows, key=lambda one: one[7]):
            number, many = one[0], left[one[0]]
            seen = max(0, one[6] - (one[5] - many))
            place = one[7]
            if many and not seen:
                seen = many if one[4] is None else min(many, one[4])
                place = rank + len(shown)
                shown.append(("shown", number, seen))
            if many:
                stand.append(one[:5] + (many, seen, place))
        self.assertEqual([event for event in events if event[0] != "trade"], shown)
        self.assertEqual(events[len(events) - len(shown):], shown)
        self.assertEqual(behind, ranked(stand))
        return rank + len(shown)

    def test_many_made(self):
        shows = 0
        for seed in range(800):
            rows = made_rows(seed, 14)
            last, rank = 95 + seed % 13, next_rank(rows)
            price, volume, events, behind, next_one = opening(rows, last, rank=rank)
            self.assertEqual((price, volume), told_price(rows, last))
            trades, left = self.check_trades(rows, price, volume, events)
            self.assertEqual(next_one, self.check_behind(rows, left, events, behind, rank))
            shows += next_one - rank
            if price is None:
                self.assertEqual((trades, behind), ([], ranked(rows)))
                continue
            self.check_worth(rows, price, trades)
            for one in rows:
                better = one[3] > price if one[2] == BUY else one[3] < price
                if better:
                    self.assertEqual(left[one[0]], 0)
        self.assertGreater(shows, 50)

    def check_worth(self, rows, price, trades):
        """The gains of the trades sum to the worth of the price; no price has a lesser worth."""
        by_number = {one[0]: one for one in rows}
        gains = sum((by_number[buyer][3] - by_number[seller][3]) * many for _, buyer, seller, _, many in trades)
        self.assertEqual(gains, worth(rows, price))
        for other in range(90, 112):
            self.assertGreaterEqual(worth(rows, other), gains)

    def test_opened_again_nothing_has_volume(self):
        for seed in range(300):
            rows = made_rows(seed, 14)
            told = opening(rows, 100, rank=next_rank(rows))
            again = opening(told[3], 100, rank=told[4])
            self.assertTrue(alike(again, (None, 0, [], told[3], told[4])))


class Worth(unittest.TestCase):
    def test_worked(self):
        rows = buys_and_sells([(12, 5), (9, 3), (10, 2)], [(8, 4), (11, 6), (10, 7)])
        for price, told in (
            (1, 5 * 11 + 3 * 8 + 2 * 9), (8, 5 * 4 + 3 + 2 * 2), (9, 5 * 3 + 2 + 4), (10, 5 * 2 + 4 * 2),
            (11, 5 + 4 * 3 + 7), (12, 4 * 4 + 6 + 7 * 2), (HIGHEST, 999992 * 4 + 999989 * 6 + 999990 * 7),
        ):
            for orders in (rows, rows[::-1]):
                self.assertTrue(alike(worth(orders, price), told), price)

    def test_no_rows(self):
        self.assertTrue(alike(worth([], 5), 0))

    def test_one_side(self):
        self.assertEqual([worth(buys_and_sells([(10, 3)], []), price) for price in (9, 10, 11)], [3, 0, 0])
        self.assertEqual([worth(buys_and_sells([], [(10, 3)]), price) for price in (9, 10, 11)], [0, 0, 3])

    def test_what_is_left_counts_not_what_is_seen(self):
        self.assertEqual(worth([row(1, "ann", BUY, 7, 40, shown=2)], 5), 80)

    def test_bounds(self):
        rows = buys_and_sells([(HIGHEST, MOST)], [(1, MOST)])
        for price in (1, 500000, HIGHEST):
            self.assertEqual(worth(rows, price), 999999 * MOST)

    def test_pairs_gain_no_more_than_the_worth_of_any_price(self):
        for seed in range(200):
            rows = made_rows(seed, 10)
            by_number = {one[0]: one for one in rows}
            pairs = paired_off(rows)[2]
            gains = sum((by_number[buyer][3] - by_number[seller][3]) * many for buyer, seller, many in pairs)
            for price in range(95, 106):
                self.assertLessEqual(gains, worth(rows, price))

    def test_what_is_handed_in_stays_and_by_name(self):
        rows = buys_and_sells([(7, 1)], [(5, 1)])
        kept = list(rows)
        self.assertEqual(worth(price=6, rows=rows), 2)
        self.assertEqual(rows, kept)


class PairedOff(unittest.TestCase):
    def check(self, rows):
        """The pairs deal the amount, and no cut has less, so none deal more."""
        kept = list(rows)
        amount, cut, pairs = paired_off(rows)
        self.assertEqual(rows, kept)
        self.assertEqual([type(part) for part in (amount, cut, pairs)], [int, int, list])
        by_number = {one[0]: one for one in rows}
        left = {one[0]: one[5] for one in rows}
        for pair in pairs:
            self.assertEqual([type(part) for part in (pair, *pair)], [tuple, int, int, int])
            buyer, seller, many = pair
            self.assertGreaterEqual(many, 1)
            self.assertEqual((by_number[buyer][2], by_number[seller][2]), (BUY, SELL))
            self.assertGreaterEqual(by_number[buyer][3], by_number[seller][3])
            left[buyer] -= many
            left[seller] -= many
        self.assertTrue(all(many >= 0 for many in left.values()))
        self.assertEqual(len({pair[:2] for pair in pairs}), len(pairs))
        self.assertEqual(sum(pair[2] for pair in pairs), amount)
        self.assertTrue(0 <= cut <= HIGHEST)
        self.assertEqual(self.cut_sum(rows, cut), amount)
        for other in {0, HIGHEST} | {one[3] + by for one in rows for by in (-1, 0)}:
            self.assertLessEqual(amount, self.cut_sum(rows, other))
        return amount

    def cut_sum(self, rows, cut):
        """What buys above the cut and what sells of it or below have left."""
        return demand_of(rows, cut + 1) + supply_of(rows, cut)

    def test_no_rows(self):
        self.assertEqual(self.check([]), 0)
        self.assertEqual(paired_off([])[2], [])

    def test_one_side(self):
        self.assertEqual(self.check(buys_and_sells([(5, 10), (HIGHEST, 3), (1, 4)], [])), 0)
        self.assertEqual(self.check(buys_and_sells([], [(5, 10), (HIGHEST, 3), (1, 4)])), 0)

    def test_rows_that_do_not_meet(self):
        self.assertEqual(self.check(buys_and_sells([(5, 10), (4, 1)], [(6, 10), (7, 1)])), 0)

    def test_more_than_at_one_price(self):
        # At one price 5 at most; in pairs of their own prices all 10.
        rows = buys_and_sells([(20, 5), (10, 5)], [(15, 5), (5, 5)])
        self.assertEqual(self.check(rows), 10)
        self.assertEqual(opening(rows, 10, rank=4)[1], 5)

    def test_worked(self):
        for buys, sells, amount in (
            ([(5, 3)], [(5, 4)], 3), ([(5, 4)], [(5, 3)], 3), ([(9, 3), (8, 3), (7, 3)], [(8, 4), (7, 4)], 8),
            ([(9, 3), (8, 3), (7, 3)], [(9, 4), (8, 4)], 6), ([(9, 2), (3, 9)], [(4, 5), (3, 1), (2, 2)], 5),
            ([(HIGHEST, MOST), (1, MOST)], [(HIGHEST, MOST), (1, MOST)], 2 * MOST),
            ([(1, MOST), (1, 1)], [(1, MOST)], MOST), ([(HIGHEST, 1)], [(1, MOST)], 1),
            ([(HIGHEST, 7)], [(HIGHEST, 7)], 7), ([(1, 7)], [(1, 7)], 7), ([(6, 7)], [(7, 7)], 0),
        ):
            rows = buys_and_sells(buys, sells)
            self.assertEqual(self.check(rows), amount)
            self.assertEqual(self.check(rows[::-1]), amount)

    def test_many_made(self):
        for seed in range(600):
            rows = made_rows(seed, 14)
            self.assertGreaterEqual(self.check(rows), opening(rows, 100, rank=next_rank(rows))[1])
            self.check(made_rows(seed, 40, most=MOST, low=1, high=HIGHEST - 1))

    def test_each_small_set_of_rows(self):
        kinds = [(side, price, left) for side in SIDES for price in (2, 4, 5) for left in (1, 2)]
        for parts in itertools.combinations_with_replacement(kinds, 4):
            self.check([row(number, "ann", *part) for number, part in enumerate(parts)])

    def test_a_new_list_and_by_name(self):
        rows = buys_and_sells([(7, 1)], [(5, 1)])
        told = paired_off(rows=rows)
        told[2].append("x")
        self.assertEqual(paired_off(rows)[2], [(0, 1, 1)])


class Soon(unittest.TestCase):
    def test_fourteen_rows_and_some_hundred(self):
        for many in (14, 600):
            rows = some_rows(random.Random(many), many, low=1, high=HIGHEST - 1, most=MOST, apart=False)
            begun = time.process_time()
            told = opening(rows, 1, rank=next_rank(rows))
            paired_off(rows)
            worth(rows, told[0])
            self.assertLess(time.process_time() - begun, 1)


if __name__ == "__main__":
    unittest.main()
