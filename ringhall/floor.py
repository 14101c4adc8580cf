"""All on which a hall goes on: its things, the orders that stand or wait, the accounts and the counts."""

from ringhall.accounts import Accounts, over
from ringhall.book import Book
from ringhall.errors import NoOrder, NoThing, OverReach
from ringhall.plain import part_seen
from ringhall.waiting import Waiting
from ringhall.words import BUY, OPEN, SELL


class Slip:
    """What an order asks for, but for its amount. It is never changed, so copies of a floor share it."""

    def __init__(self, owner, thing, side, price, shown, stop, life, guard):
        self.owner = owner
        self.thing = thing
        self.side = side
        self.price = price
        self.shown = shown
        self.stop = stop
        self.life = life
        self.guard = guard


def slip_of(order):
    """The slip of an order."""
    return Slip(
        order.owner, order.thing, order.side, order.price, order.shown, order.stop, order.life, order.guard
    )


def repriced(slip, price):
    """The slip with another price."""
    return Slip(slip.owner, slip.thing, slip.side, price, slip.shown, slip.stop, slip.life, slip.guard)


class Pit:
    """One thing of a hall: how it is told, its phase and prices, the rows that stand and what waits."""

    def __init__(self, name, start, band, rule):
        self.name = name
        self.start = start
        self.band = band
        self.rule = rule
        self.phase_now = OPEN
        self.last_price = start
        self.anchor_price = start
        self.book = Book()
        self.waits = Waiting()

    def copied(self):
        """The same pit, which goes its own way."""
        beside = Pit(self.name, self.start, self.band, self.rule)
        beside.phase_now = self.phase_now
        beside.last_price = self.last_price
        beside.anchor_price = self.anchor_price
        beside.book = self.book.copied()
        beside.waits = self.waits.copied()
        return beside


class Floor:
    """The pits, the orders by number, the accounts, and the next number and rank."""

    def __init__(self, things, reach):
        self.reach = reach
        self.pits = {}
        for name, start, band, rule in things:
            self.pits[name] = Pit(name, start, band, rule)
        # Of each order that stands or waits its slip, and what it has left.
        self.slips = {}
        self.left = {}
        # Of each owner, thing and side, what all such orders have left together.
        self.together = {}
        self.accounts = Accounts()
        self.next_number = 0
        self.next_rank = 0

    def pit_of(self, thing):
        """The pit of a thing."""
        if thing not in self.pits:
            raise NoThing(thing)
        return self.pits[thing]

    def pit_of_order(self, number):
        """The pit of an order that stands or waits."""
        if number not in self.slips:
            raise NoOrder(number)
        return self.pits[self.slips[number].thing]

    def enter(self, number, slip, left):
        """Takes in an order of a number that is not there."""
        self.slips[number] = slip
        self.left[number] = left
        self._add(slip, left)

    def amend(self, number, slip, left):
        """Gives an order that is there another slip, and so much left."""
        self._add(self.slips[number], -self.left[number])
        self.enter(number, slip, left)

    def lessen(self, number, amount):
        """Takes an amount off what an order has left; one with nothing left is gone."""
        slip = self.slips[number]
        self._add(slip, -amount)
        self.left[number] -= amount
        if self.left[number] == 0:
            del self.left[number]
            del self.slips[number]

    def _add(self, slip, amount):
        """Adds to what the orders of an owner, a thing and a side have left together."""
        key = (slip.owner, slip.thing, slip.side)
        self.together[key] = self.left_of(slip.owner, slip.thing, slip.side) + amount
        if self.together[key] == 0:
            del self.together[key]

    def left_of(self, owner, thing, side):
        """What the orders of an owner, a thing and a side have left together."""
        return self.together.get((owner, thing, side), 0)

    def numbers_of(self, owner):
        """The numbers of an owner's orders that stand or wait, rising."""
        return sorted([number for number in self.slips if self.slips[number].owner == owner])

    def check_reach(self, slip, more):
        """Refuses so much more of such an order where it would be over the reach."""
        left = {side: self.left_of(slip.owner, slip.thing, side) for side in (BUY, SELL)}
        left[slip.side] += more
        holding = self.accounts.holding(slip.owner, slip.thing)
        if over(holding, left[BUY], left[SELL], self.reach):
            raise OverReach(slip.owner)

    def stands(self, number):
        """Whether an order that is there stands; else it waits."""
        return self.pit_of_order(number).book.row(number) is not None

    def put_up(self, number):
        """Lets an order stand, and tells how much of it is seen."""
        slip = self.slips[number]
        left = self.left[number]
        seen = part_seen(slip.shown, left)
        row = (number, slip.owner, slip.side, slip.price, slip.shown, left, seen, self.next_rank)
        self.pits[slip.thing].book.put(row)
        self.next_rank += 1
        return seen

    def take_down(self, number):
        """Lets an order neither stand nor wait; its slip and what it has left stay."""
        pit = self.pit_of_order(number)
        if self.stands(number):
            pit.book.take(number)
        else:
            slip = self.slips[number]
            pit.waits.take(number, slip.side, slip.stop)

    def copied(self):
        """The same floor, which goes its own way."""
        beside = Floor([], self.reach)
        beside.pits = {name: self.pits[name].copied() for name in self.pits}
        beside.slips = dict(self.slips)
        beside.left = dict(self.left)
        beside.together = {key: self.together[key] for key in self.together}
        beside.accounts = self.accounts.copied()
        beside.next_number = self.next_number
        beside.next_rank = self.next_rank
        return beside
