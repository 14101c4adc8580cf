"""The hall: what it is told, and what it tells of itself."""

from ringhall.deeds import cancel, change, done, sweep, tell, turn
from ringhall.errors import HallError, Refused
from ringhall.floor import Floor
from ringhall.meet import would
from ringhall.words import OLD, REACH
from ringhall.written import picture_of

# No name, so no owner has it.
STRANGER = ""


class Hall:
    """Things, and orders for them that stand or wait."""

    def __init__(self, things, *, reach=REACH):
        self._floor = Floor(things, reach)

    def tell(self, order):
        """An order is told."""
        return tell(self._floor, order)

    def cancel(self, number):
        """An order is taken off."""
        return cancel(self._floor, number)

    def sweep(self, owner):
        """All orders of an owner are taken off."""
        return sweep(self._floor, owner)

    def change(self, number, *, price=None, amount=None):
        """An order is changed to another price, another amount, or both."""
        return change(self._floor, number, price, amount)

    def phase(self, thing, word):
        """A thing is turned to another phase."""
        return turn(self._floor, thing, word)

    def do(self, deed):
        """A deed is done as it is told for several."""
        return done(self._floor, deed)

    def several(self, deeds):
        """All of these deeds are done, or none."""
        beside = self._floor.copied()
        events = []
        for place, deed in enumerate(deeds):
            try:
                events.extend(done(beside, deed))
            except HallError as why:
                raise Refused(place) from why
        self._floor = beside
        return events

    def foretold(self, order):
        """The events that telling an order would bring about; nothing is changed."""
        return tell(self._floor.copied(), order)

    def standing(self, thing):
        """The rows of a thing, buys first, each side better first."""
        return self._floor.pit_of(thing).book.rows()

    def waiting(self, thing):
        """The numbers of the orders of a thing that wait, rising."""
        return self._floor.pit_of(thing).waits.numbers()

    def phase_of(self, thing):
        """The phase of a thing."""
        return self._floor.pit_of(thing).phase_now

    def last(self, thing):
        """The price of a thing's last trade, at first its start."""
        return self._floor.pit_of(thing).last_price

    def anchor(self, thing):
        """The price of a thing's last opening that had one, at first its start."""
        return self._floor.pit_of(thing).anchor_price

    def cash(self, owner):
        """The cash of an owner."""
        return self._floor.accounts.cash(owner)

    def holding(self, owner, thing):
        """What an owner has of a thing."""
        self._floor.pit_of(thing)
        return self._floor.accounts.holding(owner, thing)

    def sight(self, thing):
        """What anybody sees of a thing: of buys and of sells a list of (price, seen, rows), better first."""
        return self._floor.pit_of(thing).book.sight()

    def cost(self, thing, side, amount):
        """What a stranger's order without a price would trade now, and for how much: (traded, money)."""
        pit = self._floor.pit_of(thing)
        return would(pit.book, (self._floor.next_number, STRANGER, side, None, amount, OLD), rule=pit.rule)

    def picture(self):
        """A text that tells all on which the hall goes on."""
        return picture_of(self._floor)

    def go_on_from(self, floor):
        """Goes on from this floor in the place of its own."""
        self._floor = floor

    def __len__(self):
        return len(self._floor.slips)

    def __eq__(self, other):
        return isinstance(other, Hall) and self.picture() == other.picture()
