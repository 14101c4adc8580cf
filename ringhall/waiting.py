"""The orders of a thing that wait till its last price reaches their stop."""

from ringhall.words import BUY, SELL


def is_reached(side, stop, last):
    """Whether a last price reaches the stop of an order of this side."""
    return last >= stop if side == BUY else last <= stop


class Waiting:
    """The numbers of the orders that wait, of each side in a line by stop."""

    def __init__(self):
        # Of each side (place, number), the stops that are reached soonest first.
        self._lines = {BUY: [], SELL: []}

    def put(self, number, side, stop):
        """Takes in an order that is not there."""
        line = self._lines[side]
        entry = (sooner_first(side, stop), number)
        line.insert(place_of(line, entry), entry)

    def take(self, number, side, stop):
        """Takes out an order that is there."""
        line = self._lines[side]
        line.pop(place_of(line, (sooner_first(side, stop), number)))

    def reached(self, last):
        """The least number of those whose stop is reached, or None."""
        numbers = []
        for side in (BUY, SELL):
            for place, number in self._lines[side]:
                if place > sooner_first(side, last):
                    break
                numbers.append(number)
        return min(numbers, default=None)

    def numbers(self):
        """All numbers, rising."""
        return sorted([number for side in (BUY, SELL) for place, number in self._lines[side]])

    def copied(self):
        """The same orders, which go their own way."""
        beside = Waiting()
        beside._lines = {side: list(self._lines[side]) for side in (BUY, SELL)}
        return beside


def sooner_first(side, price):
    """What rises along the stops of a side, those that are reached sooner first."""
    # A rising last price reaches the lowest stops of buys first, a falling one the highest of sells.
    return price if side == BUY else -price


def place_of(line, entry):
    """Where an entry stands, or is to stand, in a line that rises."""
    low = 0
    high = len(line)
    while low < high:
        middle = (low + high) // 2
        if line[middle] < entry:
            low = middle + 1
        else:
            high = middle
    return low
