"""What anybody sees of a thing, and an onlooker who is told just that.

A row is ("stands", mark, side, price, seen), ("met", mark, amount), ("next", mark, seen), ("less", mark, seen) or
("gone", mark): a mark counts, from 0 on, each time that an order comes to stand.
"""

from ringhall.book import Book
from ringhall.errors import NoView
from ringhall.kinds import HIGHEST_AMOUNT, is_amount, is_price, is_whole, word_of
from ringhall.orders import MOST_PARTS, Order, lets
from ringhall.plain import against
from ringhall.words import BUY, NOW, SELL

# Of each row, behind its word, the kinds of its parts.
PARTS = {
    "stands": ("mark", "side", "price", "amount"),
    "met": ("mark", "amount"),
    "next": ("mark", "amount"),
    "less": ("mark", "amount"),
    "gone": ("mark",),
}

LETTERS = "abcdefghijklmnopqrstuvwxyz"


def public(thing, deeds, tape):
    """The rows that anybody sees of a thing, told by its name or as listed, from deeds and their tape."""
    watch = Watch(thing if isinstance(thing, str) else thing[0])
    for deed, events in zip(deeds, tape):
        for event in events:
            watch.goes_on(deed, event)
    return watch.told


class Known:
    """What a watch knows of an order; its mark is None where it does not stand."""

    def __init__(self, order):
        self.side = order.side
        self.price = order.price
        self.left = order.amount
        self.seen = 0
        self.mark = None


class Watch:
    """Follows the orders of a thing through deeds and their events, for what is seen of them."""

    def __init__(self, name):
        self.told = []
        self._name = name
        # By number, of this thing alone.
        self._known = {}
        self._marks = 0

    def goes_on(self, deed, event):
        """Takes in the next event of a deed."""
        word = event[0]
        if word == "taken":
            if deed[1].thing == self._name:
                self._known[event[1]] = Known(deed[1])
        elif word == "trade":
            for number in event[1:3]:
                self._trades(number, event[4])
        elif word == "less":
            # By a guard the coming one is less, too, by a change only the one that stands.
            for number in event[1:-1]:
                self._is_less(number, event[-1])
        elif word in ("rests", "shown", "off", "changed") and event[1] in self._known:
            self._turns(self._known[event[1]], deed, event)

    def _turns(self, one, deed, event):
        """Takes in an event by which an order comes to stand, shows anew or goes."""
        if event[0] == "rests":
            one.mark = self._marks
            one.seen = event[2]
            self._marks += 1
            self.told.append(("stands", one.mark, one.side, one.price, one.seen))
        elif event[0] == "shown":
            one.seen = event[2]
            self.told.append(("next", one.mark, one.seen))
        else:
            self._goes(one)
        if event[0] == "changed":
            one.price = one.price if deed[2] is None else deed[2]
            one.left = one.left if deed[3] is None else deed[3]

    def _trades(self, number, amount):
        """Takes in that so much of an order is traded."""
        if number not in self._known:
            return
        one = self._known[number]
        one.left -= amount
        if one.mark is not None:
            one.seen -= amount
            self.told.append(("met", one.mark, amount))

    def _is_less(self, number, amount):
        """Takes in that so much is taken off an order, what is hidden first."""
        if number not in self._known:
            return
        one = self._known[number]
        one.left -= amount
        if one.left == 0:
            self._goes(one)
        elif one.mark is not None and one.left < one.seen:
            one.seen = one.left
            self.told.append(("less", one.mark, one.seen))

    def _goes(self, one):
        """Takes in that an order stands no more, if it did."""
        if one.mark is not None:
            self.told.append(("gone", one.mark))
            one.mark = None


class Seen:
    """What an onlooker knows of an order: its first part, all parts together, whether it may show another."""

    def __init__(self, side, price, first):
        self.side = side
        self.price = price
        self.first = first
        self.together = first
        self.has_more = True

    def may_show(self, seen):
        """Whether the order may show such a part behind the others."""
        together = self.together + seen
        return self.has_more and seen <= self.first and together <= min(self.first * MOST_PARTS, HIGHEST_AMOUNT)


class Onlooker:
    """Lets by what a hall may show of a thing, row by row, and tells what stands."""

    def __init__(self):
        self._told = []
        # By mark.
        self._seen = []
        # By mark, too; of no owner, and all that is left is seen.
        self._book = Book()
        self._rank = 0

    def look(self, row):
        """Takes in the next row."""
        wrong = self._wrong(row)
        if wrong is not None:
            raise NoView(wrong)
        word, mark = row[0], row[1]
        if word == "stands":
            self._seen.append(Seen(row[2], row[3], row[4]))
            self._put_last(mark, row[4])
        elif word == "met":
            self._leave(mark, self._seen_of(mark) - row[2])
        elif word == "next":
            self._show(mark, row[2])
        elif word == "less":
            self._make_less(mark, row[2])
        else:
            self._leave(mark, 0)
        self._told.append(row)

    def _put_last(self, mark, seen):
        """Lets so much of an order be seen, behind all of its price."""
        one = self._seen[mark]
        self._book.put((mark, "", one.side, one.price, None, seen, seen, self._rank))
        self._rank += 1

    def _show(self, mark, seen):
        """Lets an order show another part."""
        one = self._seen[mark]
        one.together += seen
        # Only the last part can be less than the first.
        one.has_more = seen == one.first
        self._put_last(mark, seen)

    def _make_less(self, mark, seen):
        """Lets less of an order be seen, and nothing anew: what is hidden went first."""
        one = self._seen[mark]
        one.has_more = False
        self._leave(mark, seen)

    def _leave(self, mark, seen):
        """Lets no more than this be seen of an order, in its place."""
        if seen == 0:
            self._book.take(mark)
            return
        row = self._book.row(mark)
        self._book.renew((mark, "", row[2], row[3], None, seen, seen, row[7]))

    def _seen_of(self, mark):
        """How much is seen of an order that stands."""
        return self._book.row(mark)[6]

    def _wrong(self, row):
        """The word of the first for which no hall shows this row now, or None."""
        if not is_row(row):
            return "row"
        word, mark = row[0], row[1]
        if not self._is_number(word, mark):
            return "number"
        if word == "stands" and self._is_let_by(row[2], row[3]):
            return "price"
        if word == "met" and self._book.best(self._seen[mark].side)[0] != mark:
            return "best"
        if word == "met" and row[2] > self._seen_of(mark) or word == "less" and row[2] >= self._seen_of(mark):
            return "amount"
        if word == "next" and not self._may_show(mark, row[2]):
            return "next"
        return None

    def _is_number(self, word, mark):
        """Whether a row of this word may be of this mark."""
        if word == "stands":
            return mark == len(self._seen)
        if word == "next":
            return len(self._told) > 0 and mark == self._told[-1][1]
        return self._book.row(mark) is not None

    def _is_let_by(self, side, price):
        """Whether a coming order would let the best of the other side by."""
        best = self._book.best(against(side))
        return best is not None and lets(price, side, best[3])

    def _may_show(self, mark, seen):
        """Whether the order of the row ahead may show such a part."""
        is_met = self._told[-1][0] == "met" and self._book.row(mark) is None
        return is_met and self._seen[mark].may_show(seen)

    def sight(self):
        """What is seen: of buys and of sells a list of (price, seen, rows), better first."""
        return self._book.sight()

    def deeds(self, thing):
        """Deeds by which a new hall of this thing shows just the rows told."""
        told = []
        numbers = {}
        taken = 0
        for row in self._told:
            word, mark = row[0], row[1]
            if word == "stands":
                numbers[mark] = taken
                told.append(("tell", standing_order(self._seen[mark], thing, taken)))
                taken += 1
            elif word == "met":
                told.append(("tell", coming_order(self._seen[mark], thing, taken, row[2])))
                taken += 1
            elif word == "less":
                told.append(("change", numbers[mark], None, row[2]))
            elif word == "gone":
                told.append(("cancel", numbers[mark]))
        return told

    def __len__(self):
        return len(self._book)


def is_row(row):
    """Whether it is a row, by its word, its parts, their kinds and bounds."""
    kinds = PARTS.get(word_of(row))
    if kinds is None or len(row) != len(kinds) + 1:
        return False
    return all([is_so(kind, part) for kind, part in zip(kinds, row[1:])])


def is_so(kind, part):
    """Whether a part of a row is of this kind."""
    if kind == "mark":
        return is_whole(part) and part >= 0
    if kind == "side":
        return part in (BUY, SELL)
    return is_price(part) if kind == "price" else is_amount(part)


def standing_order(one, thing, number):
    """The order of this number that comes to stand and shows all its parts."""
    shown = one.first if one.together > one.first else None
    return Order(owner_of(number), thing, one.side, one.together, price=one.price, shown=shown)


def coming_order(one, thing, number, amount):
    """The order of this number that trades so much with the one that stands, and nothing else."""
    return Order(owner_of(number), thing, against(one.side), amount, price=one.price, life=NOW)


def owner_of(number):
    """A name for each number, so that no owner comes near the reach, or meets an order of their own."""
    name = LETTERS[number % len(LETTERS)]
    while number >= len(LETTERS):
        number = number // len(LETTERS) - 1
        name = LETTERS[number % len(LETTERS)] + name
    return name
