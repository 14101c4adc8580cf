"""Point 12: accounts, and what is over the reach."""

import random
import unittest

from anything import MOST, alike
from ringhall.accounts import Accounts, over


class Accounting(unittest.TestCase):
    def check(self, accounts, rows):
        self.assertTrue(alike(accounts.rows(), rows), accounts.rows())
        for owner, cash, holdings in rows:
            self.assertTrue(alike(accounts.cash(owner), cash))
            for thing in ("gold", "tin", "lead"):
                self.assertTrue(alike(accounts.holding(owner, thing), dict(holdings).get(thing, 0)))

    def test_nothing_at_first(self):
        accounts = Accounts()
        self.check(accounts, [])
        self.assertTrue(alike(accounts.cash("ann"), 0))
        self.assertTrue(alike(accounts.holding("ann", "gold"), 0))

    def test_asking_makes_no_row(self):
        accounts = Accounts()
        accounts.cash("ann")
        accounts.holding("ann", "gold")
        self.check(accounts, [])

    def test_a_trade_of_two(self):
        accounts = Accounts()
        self.assertIsNone(accounts.trade("gold", "bob", "ann", 7, 5))
        self.check(accounts, [("ann", 35, [("gold", -5)]), ("bob", -35, [("gold", 5)])])

    def test_by_name(self):
        accounts = Accounts()
        self.assertIsNone(accounts.trade(amount=5, price=7, seller="ann", buyer="bob", thing="gold"))
        self.check(accounts, [("ann", 35, [("gold", -5)]), ("bob", -35, [("gold", 5)])])
        self.assertEqual(accounts.cash(owner="bob"), -35)
        self.assertEqual(accounts.holding(thing="gold", owner="bob"), 5)

    def test_trades_sum(self):
        accounts = Accounts()
        accounts.trade("gold", "bob", "ann", 7, 5)
        accounts.trade("gold", "bob", "cid", 8, 2)
        accounts.trade("tin", "ann", "bob", 3, 4)
        accounts.trade("gold", "cid", "bob", 9, 10)
        self.check(accounts, [
            ("ann", 23, [("gold", -5), ("tin", 4)]),
            ("bob", 51, [("gold", -3), ("tin", -4)]),
            ("cid", -74, [("gold", 8)]),
        ])

    def test_with_oneself_nothing_moves(self):
        accounts = Accounts()
        self.assertIsNone(accounts.trade("gold", "ann", "ann", 7, 5))
        self.check(accounts, [])
        accounts.trade("gold", "bob", "ann", 7, 5)
        accounts.trade("gold", "ann", "ann", 1000000, 1000000000)
        accounts.trade("tin", "bob", "bob", 1, 1)
        self.check(accounts, [("ann", 35, [("gold", -5)]), ("bob", -35, [("gold", 5)])])

    def test_rows_by_name(self):
        accounts = Accounts()
        names = ["b", "ab", "a", "zz", "aa", "abc", "z"]
        for name in names:
            accounts.trade(name, "middle", name, 2, 3)
        sold = [(name, 6, [(name, -3)]) for name in ("a", "aa", "ab", "abc", "b")]
        bought = [(name, 3) for name in ("a", "aa", "ab", "abc", "b", "z", "zz")]
        more = [("middle", -42, bought), ("z", 6, [("z", -3)]), ("zz", 6, [("zz", -3)])]
        self.check(accounts, sold + more)

    def test_nought_again(self):
        accounts = Accounts()
        accounts.trade("gold", "bob", "ann", 7, 5)
        accounts.trade("gold", "ann", "bob", 7, 5)
        self.check(accounts, [])
        accounts.trade("gold", "bob", "ann", 7, 5)
        accounts.trade("gold", "ann", "bob", 8, 5)
        self.check(accounts, [("ann", -5, []), ("bob", 5, [])])
        accounts.trade("tin", "bob", "ann", 5, 1)
        accounts.trade("tin", "ann", "cid", 1, 1)
        self.check(accounts, [("ann", -1, []), ("bob", 0, [("tin", 1)]), ("cid", 1, [("tin", -1)])])

    def test_the_bounds(self):
        accounts = Accounts()
        for _ in range(3):
            accounts.trade("gold", "zzzzzzzz", "a", 1000000, 1000000000)
        accounts.trade("gold", "zzzzzzzz", "a", 1, 1)
        self.check(accounts, [
            ("a", 3 * 10 ** 15 + 1, [("gold", -3 * 10 ** 9 - 1)]),
            ("zzzzzzzz", -3 * 10 ** 15 - 1, [("gold", 3 * 10 ** 9 + 1)]),
        ])

    def test_an_owner_called_like_a_thing(self):
        accounts = Accounts()
        accounts.trade("gold", "gold", "tin", 2, 3)
        self.check(accounts, [("gold", -6, [("gold", 3)]), ("tin", 6, [("gold", -3)])])

    def test_told_lists_are_the_askers_own(self):
        accounts = Accounts()
        accounts.trade("gold", "bob", "ann", 7, 5)
        told = accounts.rows()
        self.assertIsNot(accounts.rows(), told)
        self.assertIsNot(accounts.rows()[0][2], told[0][2])
        told[0][2].append(("tin", 9))
        told[1][2].clear()
        told.pop()
        self.check(accounts, [("ann", 35, [("gold", -5)]), ("bob", -35, [("gold", 5)])])

    def test_two_beside_one_another(self):
        accounts, other = Accounts(), Accounts()
        accounts.trade("gold", "bob", "ann", 7, 5)
        self.check(other, [])

    def test_a_copy_goes_its_own_way(self):
        accounts = Accounts()
        accounts.trade("gold", "bob", "ann", 7, 5)
        other = accounts.copied()
        accounts.trade("gold", "bob", "ann", 7, 5)
        other.trade("tin", "bob", "ann", 1, 1)
        self.check(accounts, [("ann", 70, [("gold", -10)]), ("bob", -70, [("gold", 10)])])
        self.check(other, [("ann", 36, [("gold", -5), ("tin", -1)]), ("bob", -36, [("gold", 5), ("tin", 1)])])

    def test_made_trades_sum_to_nought(self):
        chance = random.Random(12)
        accounts = Accounts()
        trades = []
        for _ in range(300):
            thing, buyer = chance.choice(["gold", "tin"]), chance.choice(["ann", "bob", "cid"])
            trade = (thing, buyer, chance.choice(["ann", "bob", "cid"]), chance.randint(1, 9), chance.randint(1, 9))
            accounts.trade(*trade)
            trades.append(trade)
            rows = accounts.rows()
            self.assertEqual(sum(cash for _, cash, _ in rows), 0)
            for name in ("gold", "tin"):
                self.assertEqual(sum(dict(holdings).get(name, 0) for _, _, holdings in rows), 0)
        for owner in ("ann", "bob", "cid"):
            got = sum(price * amount for _, _, seller, price, amount in trades if seller == owner)
            paid = sum(price * amount for _, buyer, _, price, amount in trades if buyer == owner)
            self.assertEqual(accounts.cash(owner), got - paid)


class Over(unittest.TestCase):
    def test_buys(self):
        for holding, buys, reach in ((0, 10, 10), (4, 6, 10), (-5, 15, 10), (10, 0, 10), (0, 0, 0), (-3, 3, 0)):
            with self.subTest(holding=holding, buys=buys, reach=reach):
                sells = min(0, holding)
                self.assertIs(over(holding, buys - 1, sells, reach), False)
                self.assertIs(over(holding, buys, sells, reach), False)
                self.assertIs(over(holding, buys + 1, sells, reach), True)

    def test_sells(self):
        for holding, sells, reach in ((0, 10, 10), (4, 14, 10), (-5, 5, 10), (-10, 0, 10), (0, 0, 0), (3, 3, 0)):
            with self.subTest(holding=holding, sells=sells, reach=reach):
                buys = min(0, -holding)
                self.assertIs(over(holding, buys, sells - 1, reach), False)
                self.assertIs(over(holding, buys, sells, reach), False)
                self.assertIs(over(holding, buys, sells + 1, reach), True)

    def test_buys_and_sells_do_not_make_up_for_one_another(self):
        self.assertIs(over(0, 10, 10, 10), False)
        self.assertIs(over(0, 11, 10, 10), True)
        self.assertIs(over(0, 10, 11, 10), True)
        self.assertIs(over(0, 0, 11, 10), True)
        self.assertIs(over(0, 11, 0, 10), True)

    def test_a_holding_beyond_the_reach(self):
        self.assertIs(over(11, 0, 0, 10), True)
        self.assertIs(over(-11, 0, 0, 10), True)
        self.assertIs(over(10, 0, 0, 10), False)
        self.assertIs(over(-10, 0, 0, 10), False)

    def test_any_whole_numbers(self):
        self.assertIs(over(MOST, 0, 0, MOST), False)
        self.assertIs(over(MOST, 1, 0, MOST), True)
        self.assertIs(over(-MOST, 0, 1, MOST), True)
        self.assertIs(over(-MOST, 2 * MOST, 0, MOST), False)
        self.assertIs(over(5, -20, -20, -8), False)
        self.assertIs(over(5, -20, -2, -8), True)
        self.assertIs(over(5, -13, -20, -8), False)
        self.assertIs(over(5, -12, -20, -8), True)

    def test_by_name(self):
        self.assertIs(over(reach=10, sells=0, buys=11, holding=0), True)
        self.assertIs(over(reach=11, sells=0, buys=11, holding=0), False)

    def test_told_once_more(self):
        for holding in range(-4, 5):
            for buys in range(5):
                for sells in range(5):
                    for reach in range(5):
                        so = not (holding + buys <= reach and -reach <= holding - sells)
                        self.assertIs(over(holding, buys, sells, reach), so)


if __name__ == "__main__":
    unittest.main()
