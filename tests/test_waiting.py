"""Point 13: the line of orders that wait, by their stops, against all of them looked through."""

import random
import unittest

from ringhall.waiting import Waiting, is_reached
from ringhall.words import BUY, SELL


def least(orders, last):
    """The least number of those that are reached, or None."""
    reached = [
        number for number, (side, stop) in orders.items() if (last >= stop if side == BUY else last <= stop)
    ]
    return min(reached, default=None)


class WaitingOrders(unittest.TestCase):
    def test_is_reached(self):
        for side, stop, last, so in (
            (BUY, 5, 4, False), (BUY, 5, 5, True), (BUY, 5, 6, True),
            (SELL, 5, 4, True), (SELL, 5, 5, True), (SELL, 5, 6, False),
        ):
            self.assertIs(is_reached(side, stop, last), so)

    def test_nothing(self):
        waiting = Waiting()
        self.assertEqual(waiting.numbers(), [])
        self.assertIsNone(waiting.reached(100))

    def test_put_and_taken(self):
        for seed in range(40):
            chance = random.Random(seed)
            waiting, orders = Waiting(), {}
            for number in chance.sample(range(200), 60):
                side, stop = chance.choice([BUY, SELL]), chance.randint(95, 105)
                waiting.put(number, side, stop)
                orders[number] = (side, stop)
                if chance.random() < 0.4:
                    gone = chance.choice(list(orders))
                    waiting.take(gone, *orders.pop(gone))
                self.assertEqual(waiting.numbers(), sorted(orders))
                for last in range(94, 107):
                    self.assertEqual(waiting.reached(last), least(orders, last))

    def test_a_copy_goes_its_own_way(self):
        waiting = Waiting()
        waiting.put(3, BUY, 100)
        other = waiting.copied()
        other.put(1, SELL, 100)
        waiting.take(3, BUY, 100)
        self.assertEqual((waiting.numbers(), other.numbers()), ([], [1, 3]))


if __name__ == "__main__":
    unittest.main()
