"""Points 1, 3 and 12 to 15: halls over many made rows of deeds, against plain lists, by sums and by time."""

import random
import time
import unittest

from anything import alike
from hallcase import HallCase, buy, hall_of, outcome, sell
from madedeeds import OWNERS, some_deeds, some_things
from plainhall import PlainHall
from ringhall.accounts import over
from ringhall.hall import Hall
from ringhall.orders import Order, listed
from ringhall.words import BUY, CALL, OPEN, SELL


class AgainstPlainLists(HallCase):
    def test_each_deed_and_picture(self):
        for seed in range(150):
            chance = random.Random(seed)
            things = some_things(chance)
            reach = chance.choice([10 ** 12, 10 ** 12, 60, 20])
            self.goes_as_plain(things, some_deeds(seed, 40), reach)

    def test_few_turns_many_stops(self):
        for seed in range(60):
            things = some_things(random.Random(seed), names=("gold",))
            self.goes_as_plain(things, some_deeds(seed, 60, names=("gold",), turns=0.03, stops=0.6, wrong=0))

    def test_one_owner_alone(self):
        for seed in range(30):
            things = some_things(random.Random(seed))
            self.goes_as_plain(things, some_deeds(seed, 40, owners=("ann",), turns=0.05))

    def test_looks(self):
        for seed in range(40):
            chance = random.Random(seed)
            things = some_things(chance)
            hall, plain = Hall(things), PlainHall(things)
            for deed in some_deeds(seed + 1000, 30):
                outcome(hall, deed)
                outcome(plain, deed)
                self.assertEqual(len(hall), len(plain))
                for name in ("gold", "tin"):
                    for look in ("standing", "waiting", "phase_of", "last", "anchor", "sight"):
                        self.assertTrue(alike(getattr(hall, look)(name), getattr(plain, look)(name)))
                    for side in (BUY, SELL):
                        amount = chance.randint(1, 70)
                        self.assertTrue(alike(hall.cost(name, side, amount), plain.cost(name, side, amount)))
                    for owner in OWNERS:
                        self.assertTrue(alike(hall.holding(owner, name), plain.holding(owner, name)))
                        self.assertTrue(alike(hall.cash(owner), plain.cash(owner)))

    def test_two_halls_in_turns(self):
        for seed in range(20):
            things = [some_things(random.Random(seed + at)) for at in range(2)]
            halls = [Hall(one) for one in things]
            plain = [PlainHall(one) for one in things]
            rows = [some_deeds(seed + 7 * at, 30) for at in range(2)]
            for deeds in zip(*rows):
                for at in range(2):
                    self.assertTrue(alike(outcome(halls[at], deeds[at]), outcome(plain[at], deeds[at])))
            for at in range(2):
                self.assertEqual(halls[at].picture(), plain[at].picture())


class Sums(HallCase):
    """Point 3, behind each of many deeds."""

    def test_sums(self):
        for seed in range(60):
            chance = random.Random(seed)
            things = some_things(chance)
            reach = chance.choice([10 ** 12, 60, 25])
            hall = Hall(things, reach=reach)
            told = {}
            for deed in some_deeds(seed + 500, 50):
                # What is less or more by a change is taken from the picture, what else from the events.
                events = outcome(hall, deed)
                if not isinstance(events, list):
                    continue
                self.follow(told, deed, events)
                self.check_left(hall, told)
                self.check_accounts(hall, reach)
                self.check_apart(hall)

    def follow(self, told, deed, events):
        """Follows what each order has left, by what is told alone."""
        for event in events:
            word = event[0]
            if word == "taken":
                told[event[1]] = [deed[1], deed[1].amount]
            elif word == "trade":
                for number in event[1:3]:
                    order = told[number][0]
                    told[number][1] -= event[4]
                    self.assertGreaterEqual(told[number][1], 0)
                    if order.price is not None and order.side == BUY:
                        self.assertLessEqual(event[3], order.price)
                    elif order.price is not None:
                        self.assertGreaterEqual(event[3], order.price)
            elif word == "off":
                self.assertEqual(told[event[1]][1], event[2])
                told[event[1]][1] = 0
            elif word == "less":
                for number in event[1:-1]:
                    told[number][1] -= event[-1]
                    self.assertGreaterEqual(told[number][1], 0)
            elif word == "changed":
                order, left = told[event[1]]
                price = order.price if deed[2] is None else deed[2]
                life = order.life
                told[event[1]] = [
                    Order(order.owner, order.thing, order.side, 1000000000, price=price, life=life),
                    left if deed[3] is None else deed[3],
                ]

    def check_left(self, hall, told):
        """Checks what is left by the picture against what was told."""
        left = {}
        for line in hall.picture().split("\n"):
            words = line.split(" ")
            if words[0] == "order":
                left[int(words[1])] = int(words[10])
        self.assertEqual(left, {number: one[1] for number, one in told.items() if one[1] > 0})

    def check_accounts(self, hall, reach):
        """Checks that all sums to nought, and that nobody leaves their reach."""
        self.assertEqual(sum(hall.cash(owner) for owner in OWNERS), 0)
        orders = [line.split(" ") for line in hall.picture().split("\n") if line.startswith("order ")]
        for thing in ("gold", "tin"):
            self.assertEqual(sum(hall.holding(owner, thing) for owner in OWNERS), 0)
            for owner in OWNERS:
                left = {BUY: 0, SELL: 0}
                for words in orders:
                    if words[2:4] == [owner, thing]:
                        left[words[4]] += int(words[10])
                holding = hall.holding(owner, thing)
                self.assertLessEqual(abs(holding), reach)
                self.assertIs(over(holding, left[BUY], left[SELL], reach), False)

    def check_apart(self, hall):
        """Checks that the best buy of an open thing is below the best sell."""
        for thing in ("gold", "tin"):
            buys, sells = hall.sight(thing)
            if hall.phase_of(thing) == OPEN and buys and sells:
                self.assertLess(buys[0][0], sells[0][0])


class Time(HallCase):
    def big(self, many):
        """A hall of so many orders that stand and wait."""
        chance = random.Random(7)
        hall = Hall([listed("gold", 1000), listed("tin", 1000, rule="share")])
        for at in range(many):
            side = chance.choice([BUY, SELL])
            away = chance.randint(1, 400) * (1 if side == SELL else -1)
            stop = 1000 - away if at % 8 == 0 else None
            owner = "abcdefghij"[at % 10] + "klmnopqrst"[at // 10 % 10]
            hall.tell(Order(
                owner, chance.choice(["gold", "tin"]), side, chance.randint(20, 99), price=1000 + away,
                shown=chance.choice([None, 10]), stop=stop,
            ))
        return hall

    def test_forty_deeds_with_looks(self):
        hall = self.big(1500)
        self.assertEqual(len(hall), 1500)
        chance = random.Random(8)
        started = time.perf_counter()
        for at in range(40):
            thing = chance.choice(["gold", "tin"])
            order = Order("zoe", thing, chance.choice([BUY, SELL]), 500, price=1000, life="rest")
            hall.foretold(order)
            if at % 10 == 5:
                hall.phase(thing, CALL)
                hall.phase(thing, OPEN)
            elif at % 10 == 7:
                hall.several([("tell", order), ("change", 2 * at, 1000, 15), ("sweep", "ak"), ("sweep", "zoe")])
            else:
                hall.tell(order)
            for name in ("gold", "tin"):
                hall.standing(name)
                hall.waiting(name)
                hall.sight(name)
                hall.cost(name, BUY, 5000)
                hall.cost(name, SELL, 5000)
            hall.holding("zoe", thing)
            hall.picture()
        self.assertLess(time.perf_counter() - started, 1)

    def test_many_orders_told(self):
        started = time.perf_counter()
        hall = self.big(4000)
        self.assertLess(time.perf_counter() - started, 2)
        started = time.perf_counter()
        hall.tell(Order("zoe", "gold", BUY, 1000000, life="now"))
        hall.tell(Order("zoe", "tin", BUY, 1000000, life="now"))
        self.assertLess(time.perf_counter() - started, 2)

    def test_a_deep_level_by_share(self):
        hall = hall_of(*[sell("bob", 5, 100) for _ in range(3000)], things=(("gold", 100, None, "share"),))
        started = time.perf_counter()
        for _ in range(5):
            hall.tell(buy("ann", 1500, 100))
            hall.cost("gold", BUY, 700)
        self.assertLess(time.perf_counter() - started, 2)
        self.assertEqual(sum(row[5] for row in hall.standing("gold")), 7500)

    def test_many_wake(self):
        waiting = [buy("cid", 1, 50, stop=105 + at % 3) for at in range(1500)]
        hall = hall_of(*waiting, sell("bob", 1, 107))
        started = time.perf_counter()
        hall.tell(buy("ann", 1, 107))
        self.assertLess(time.perf_counter() - started, 2)
        self.assertEqual(len(hall.standing("gold")), 1500)


if __name__ == "__main__":
    unittest.main()
