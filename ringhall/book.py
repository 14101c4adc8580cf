"""The rows of a thing that stand: in levels by price, in each level a queue by rank."""

from collections import deque
from ringhall.errors import NoOrder
from ringhall.words import BUY, SELL


class Book:
    """Rows, each (number, owner, side, price, shown, left, seen, rank), found by number, side and price."""

    def __init__(self):
        self._by_number = {}
        # Of each side, the numbers of each price that has rows, by rank.
        self._queues = {BUY: {}, SELL: {}}
        # Of each side, these prices, the best one last, so that it goes without moving others.
        self._prices = {BUY: [], SELL: []}

    def put(self, row):
        """Takes in a row of a number that is not there."""
        number, side, price = row[0], row[2], row[3]
        queues = self._queues[side]
        if price not in queues:
            queues[price] = deque()
            prices = self._prices[side]
            prices.insert(place_of(prices, side, price), price)
        self._line_up(queues[price], number, row[7])
        self._by_number[number] = row

    def _line_up(self, queue, number, rank):
        """Puts a number where its rank has its place in the queue."""
        # Most come with the greatest rank, some with the least.
        if queue and rank < self._by_number[queue[0]][7]:
            queue.appendleft(number)
            return
        at = len(queue)
        while at > 0 and rank < self._by_number[queue[at - 1]][7]:
            at -= 1
        queue.insert(at, number)

    def take(self, number):
        """Takes out the row of a number, and tells it."""
        if number not in self._by_number:
            raise NoOrder(number)
        row = self._by_number[number]
        side, price = row[2], row[3]
        queue = self._queues[side][price]
        # Finds the first one at once, which is what a meeting takes.
        queue.remove(number)
        if len(queue) == 0:
            del self._queues[side][price]
            prices = self._prices[side]
            prices.pop(place_of(prices, side, price))
        del self._by_number[number]
        return row

    def renew(self, row):
        """Puts a row in the place of the one that is there, of its number, side, price and rank."""
        self._by_number[row[0]] = row

    def row(self, number):
        """The row of a number, or None."""
        return self._by_number.get(number)

    def best(self, side):
        """The best row of a side, or None."""
        prices = self._prices[side]
        if not prices:
            return None
        return self._by_number[self._queues[side][prices[-1]][0]]

    def level(self, side, price):
        """The rows of a side and a price, by rank."""
        if price not in self._queues[side]:
            return []
        return [self._by_number[number] for number in self._queues[side][price]]

    def rows(self):
        """All rows, buys first, each side better first."""
        told = []
        for side in (BUY, SELL):
            for price in reversed(self._prices[side]):
                told.extend(self.level(side, price))
        return told

    def sight(self):
        """What anybody sees: of buys and of sells a list of (price, seen, rows), better first."""
        return self._sight_of(BUY), self._sight_of(SELL)

    def prices(self, side):
        """The prices of a side, better first."""
        return list(reversed(self._prices[side]))

    def copied(self):
        """A book of the same rows, which goes its own way."""
        beside = Book()
        beside._by_number = dict(self._by_number)
        for side in (BUY, SELL):
            queues = self._queues[side]
            beside._queues[side] = {price: queues[price].copy() for price in queues}
            beside._prices[side] = list(self._prices[side])
        return beside

    def _sight_of(self, side):
        """What anybody sees of a side."""
        told = []
        for price in reversed(self._prices[side]):
            seen = [row[6] for row in self.level(side, price)]
            told.append((price, sum(seen), len(seen)))
        return told

    def __len__(self):
        return len(self._by_number)

    def __eq__(self, other):
        return isinstance(other, Book) and self._by_number == other._by_number


def book_of(rows):
    """A book of these rows."""
    book = Book()
    for row in rows:
        book.put(row)
    return book


def place_of(prices, side, price):
    """Where a price stands, or is to stand, among the prices of a side, the best one last."""
    low = 0
    high = len(prices)
    while low < high:
        middle = (low + high) // 2
        if is_worse(side, prices[middle], price):
            low = middle + 1
        else:
            high = middle
    return low


def is_worse(side, price, other):
    """Whether a price of a side is worse than the other for who meets it."""
    return price < other if side == BUY else price > other
