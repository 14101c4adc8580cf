"""Things, orders, and how rows of standing orders are ranked."""

from ringhall.errors import BadOrder, BadThing
from ringhall.kinds import is_amount, is_band, is_name, is_price
from ringhall.words import BOTH, BUY, LESS, NEW, NOW, OLD, ONLY, RANK, REST, SELL, SHARE, WHOLE

MOST_PARTS = 20


def first_wrong(parts):
    """The word of the first of the parts (word, so) that is not so, or None."""
    for word, so in parts:
        if not so:
            return word
    return None


def listed(name, start, *, band=None, rule=RANK):
    """The tuple of a thing."""
    wrong = first_wrong([
        ("name", is_name(name)),
        ("start", is_price(start)),
        ("band", band is None or is_band(band)),
        ("rule", rule in (RANK, SHARE)),
    ])
    if wrong is not None:
        raise BadThing(wrong)
    return name, start, band, rule


class Order:
    """What somebody wants to buy or to sell, and how."""

    def __init__(self, owner, thing, side, amount, *, price=None, shown=None, stop=None, life=REST, guard=OLD):
        self.owner = owner
        self.thing = thing
        self.side = side
        self.amount = amount
        self.price = price
        self.shown = shown
        self.stop = stop
        self.life = life
        self.guard = guard
        wrong = wrong_part(self)
        if wrong is not None:
            raise BadOrder(wrong)

    def __eq__(self, other):
        return (
            isinstance(other, Order)
            and self.owner == other.owner
            and self.thing == other.thing
            and self.side == other.side
            and self.amount == other.amount
            and self.price == other.price
            and self.shown == other.shown
            and self.stop == other.stop
            and self.life == other.life
            and self.guard == other.guard
        )

    def __str__(self):
        words = [f"{self.side} {self.amount} {self.thing}"]
        if self.price is not None:
            words.append(f"at {self.price}")
        if self.shown is not None:
            words.append(f"show {self.shown}")
        if self.stop is not None:
            words.append(f"stop {self.stop}")
        if self.life != REST:
            words.append(f"life {self.life}")
        if self.guard != OLD:
            words.append(f"guard {self.guard}")
        words.append(f"by {self.owner}")
        return " ".join(words)


def wrong_part(order):
    """The word of the first part of the order that is wrong, or None."""
    wrong = first_wrong([
        ("owner", is_name(order.owner)),
        ("thing", is_name(order.thing)),
        ("side", order.side in (BUY, SELL)),
        ("amount", is_amount(order.amount)),
        ("price", order.price is None or is_price(order.price)),
        ("shown", order.shown is None or is_amount(order.shown)),
        ("stop", order.stop is None or is_price(order.stop)),
        ("life", order.life in (REST, NOW, WHOLE, ONLY)),
        ("guard", order.guard in (OLD, NEW, BOTH, LESS)),
    ])
    # Only of parts that are so by themselves can it be asked how they go together.
    return wrong_together(order) if wrong is None else wrong


def wrong_together(order):
    """The word of the first part that does not go with the others, or None."""
    may_stand = order.life in (REST, ONLY)
    if may_stand and order.price is None:
        return "price"
    if order.shown is None:
        return None
    if may_stand and order.shown <= order.amount and shows_enough(order.shown, order.amount):
        return None
    return "shown"


def shows_enough(shown, amount):
    """Whether the shown part is a twentieth of the amount at least."""
    return amount <= shown * MOST_PARTS


def ranked(rows):
    """The rows, buys first, each side better first."""
    buys = [row for row in rows if row[2] == BUY]
    sells = [row for row in rows if row[2] == SELL]
    buys = sorted(buys, key=lambda row: (-row[3], row[7]))
    sells = sorted(sells, key=lambda row: (row[3], row[7]))
    return buys + sells


def lets(price, side, other):
    """Whether a coming order of this price, or None, and side lets the other price by."""
    if price is None:
        return True
    if side == BUY:
        return price >= other
    return price <= other
