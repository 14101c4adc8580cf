"""Points 6, 7 and 9: how rows are ranked, and which prices a coming order lets by."""

import itertools
import unittest

from ringhall.orders import lets, ranked
from ringhall.words import BUY, SELL


def row(number, side, price, rank):
    """A row of which only what ranks it matters."""
    return (number, "ann", side, price, None, 10, 10, rank)


BUYS = [row(9, BUY, 12, 3), row(4, BUY, 12, 11), row(2, BUY, 10, 0), row(3, BUY, 9, 2), row(0, BUY, 9, 10)]
SELLS = [row(8, SELL, 13, 5), row(1, SELL, 13, 9), row(6, SELL, 14, 1), row(5, SELL, 100, 4), row(7, SELL, 100, 6)]


class Ranked(unittest.TestCase):
    def test_no_rows(self):
        rows = []
        told = ranked(rows)
        self.assertEqual(told, [])
        self.assertIs(type(told), list)
        self.assertIsNot(told, rows)

    def test_one_side(self):
        for orders in (BUYS, SELLS):
            for rows in itertools.permutations(orders):
                self.assertEqual(ranked(list(rows)), orders)

    def test_both_sides(self):
        told = BUYS + SELLS
        for step in (1, 3, 7, 9):
            for shift in range(10):
                rows = [told[(shift + step * at) - (shift + step * at) // 10 * 10] for at in range(10)]
                self.assertEqual(ranked(rows), told)

    def test_sides_that_meet(self):
        rows = [row(0, SELL, 5, 0), row(1, BUY, 9, 1), row(2, SELL, 4, 2), row(3, BUY, 8, 3)]
        self.assertEqual(ranked(rows), [rows[1], rows[3], rows[2], rows[0]])

    def test_one_price(self):
        for side in (BUY, SELL):
            orders = [row(9 - rank, side, 7, rank) for rank in (0, 1, 2, 9, 10, 100)]
            for rows in itertools.permutations(orders):
                self.assertEqual(ranked(list(rows)), orders)

    def test_number_owner_and_amounts_do_not_rank(self):
        first = (5, "zoe", BUY, 7, 2, 3, 2, 1)
        second = (4, "ann", BUY, 7, None, 1000, 1000, 2)
        self.assertEqual(ranked([second, first]), [first, second])
        self.assertEqual(ranked([first, second]), [first, second])

    def test_by_number_not_by_text(self):
        self.assertEqual(ranked([row(0, BUY, 9, 0), row(1, BUY, 10, 1)])[0][3], 10)
        self.assertEqual(ranked([row(0, SELL, 10, 0), row(1, SELL, 9, 1)])[0][3], 9)

    def test_what_is_handed_in_stays_and_the_list_is_new(self):
        for told in (list(BUYS + SELLS), list(reversed(BUYS + SELLS)), [BUYS[0]]):
            rows = list(told)
            answer = ranked(rows)
            self.assertEqual(rows, told)
            self.assertIs(type(answer), list)
            self.assertIsNot(answer, rows)
            answer.append(None)
            self.assertEqual(rows, told)
            self.assertEqual(ranked(rows), answer[:-1])

    def test_by_name(self):
        self.assertEqual(ranked(rows=[SELLS[0], BUYS[0]]), [BUYS[0], SELLS[0]])


class Lets(unittest.TestCase):
    def test_a_buy(self):
        for other, so in ((1, True), (4, True), (5, True), (6, False), (1000000, False)):
            self.assertIs(lets(5, BUY, other), so)

    def test_a_sell(self):
        for other, so in ((1, False), (4, False), (5, True), (6, True), (1000000, True)):
            self.assertIs(lets(5, SELL, other), so)

    def test_no_price(self):
        for side in (BUY, SELL):
            for other in (1, 5, 1000000):
                self.assertIs(lets(None, side, other), True)

    def test_bounds(self):
        self.assertIs(lets(1000000, BUY, 1000000), True)
        self.assertIs(lets(1, BUY, 1), True)
        self.assertIs(lets(1, SELL, 1), True)
        self.assertIs(lets(1000000, SELL, 1000000), True)

    def test_by_name(self):
        self.assertIs(lets(other=4, side=BUY, price=5), True)
        self.assertIs(lets(other=4, side=SELL, price=5), False)


if __name__ == "__main__":
    unittest.main()
