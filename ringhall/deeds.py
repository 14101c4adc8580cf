"""What each deed does to the floor of a hall: all of its refusals ahead of the first change, then its events.

A deed is ("tell", order), ("cancel", number), ("sweep", owner), ("change", number, price, amount), None where one is
not told, or ("phase", thing, word).
"""

from ringhall.book import book_of
from ringhall.coming import come_and_wake, off, rest, settle, wake
from ringhall.errors import BadOrder, BadPhase, NoDeed, Shut
from ringhall.floor import repriced, slip_of
from ringhall.kinds import is_amount, is_price, is_whole, word_of
from ringhall.opening import opening
from ringhall.orders import Order, shows_enough
from ringhall.plain import hidden_first
from ringhall.waiting import is_reached
from ringhall.words import CALL, NOW, OPEN, SHUT, WHOLE

# Of each deed, behind its word, the kinds of its parts.
PARTS = {
    "tell": ("order",),
    "cancel": ("number",),
    "sweep": ("text",),
    "change": ("number", "number or none", "number or none"),
    "phase": ("text", "text"),
}


def done(floor, deed):
    """Does a deed, and tells its events."""
    if not is_deed(deed):
        raise NoDeed()
    word = deed[0]
    if word == "tell":
        return tell(floor, deed[1])
    if word == "cancel":
        return cancel(floor, deed[1])
    if word == "sweep":
        return sweep(floor, deed[1])
    if word == "change":
        return change(floor, deed[1], deed[2], deed[3])
    return turn(floor, deed[1], deed[2])


def is_deed(deed):
    """Whether it is a deed, by its word and the kinds of its parts."""
    kinds = PARTS.get(word_of(deed))
    if kinds is None or len(deed) != len(kinds) + 1:
        return False
    return all([is_so(kind, part) for kind, part in zip(kinds, deed[1:])])


def is_so(kind, part):
    """Whether a part of a deed is of this kind."""
    if kind == "order":
        return isinstance(part, Order)
    if kind == "text":
        return isinstance(part, str)
    return is_whole(part) or part is None and kind == "number or none"


def check_not_shut(pit):
    """Refuses what asks of a thing that is shut."""
    if pit.phase_now == SHUT:
        raise Shut(pit.name)


def tell(floor, order):
    """An order is told."""
    pit = floor.pit_of(order.thing)
    check_not_shut(pit)
    slip = slip_of(order)
    floor.check_reach(slip, order.amount)
    number = floor.next_number
    floor.next_number += 1
    floor.enter(number, slip, order.amount)
    return [("taken", number)] + arrive(floor, pit, number)


def arrive(floor, pit, number):
    """What becomes of an order that was taken."""
    slip = floor.slips[number]
    if slip.stop is not None and (pit.phase_now == CALL or not is_reached(slip.side, slip.stop, pit.last_price)):
        pit.waits.put(number, slip.side, slip.stop)
        return [("waits", number)]
    if pit.phase_now == CALL and slip.life in (NOW, WHOLE):
        return off(floor, number, slip.life)
    return stand_or_come(floor, pit, number)


def stand_or_come(floor, pit, number):
    """In a call an order stands, else it comes."""
    if pit.phase_now == CALL:
        return rest(floor, number)
    return come_and_wake(floor, pit, number)


def cancel(floor, number):
    """An order is taken off."""
    floor.take_down(number)
    return off(floor, number, "cancel")


def sweep(floor, owner):
    """All orders of an owner are taken off."""
    events = []
    for number in floor.numbers_of(owner):
        events.extend(cancel(floor, number))
    return events


def change(floor, number, price, amount):
    """An order is changed to another price, another amount, or both."""
    pit = floor.pit_of_order(number)
    check_not_shut(pit)
    slip = floor.slips[number]
    left = floor.left[number]
    wrong = wrong_change(slip, price, amount)
    if wrong is not None:
        raise BadOrder(wrong)
    if price is None:
        price = slip.price
    if amount is None:
        amount = left
    floor.check_reach(slip, amount - left)
    if not floor.stands(number):
        floor.amend(number, repriced(slip, price), amount)
        return [("changed", number)]
    if price == slip.price and amount <= left:
        return made_less(floor, pit, number, left - amount)
    floor.take_down(number)
    floor.amend(number, repriced(slip, price), amount)
    return [("changed", number)] + stand_or_come(floor, pit, number)


def wrong_change(slip, price, amount):
    """The word of the first that an order can not be changed to, or None."""
    if price is not None and not is_price(price):
        return "price"
    if amount is None:
        return "amount" if price is None else None
    if not is_amount(amount):
        return "amount"
    if slip.shown is not None and not shows_enough(slip.shown, amount):
        return "amount"
    return None


def made_less(floor, pit, number, amount):
    """An order that stands has so much less left, and keeps its rank."""
    if amount == 0:
        return []
    pit.book.renew(hidden_first(pit.book.row(number), amount))
    floor.lessen(number, amount)
    return [("less", number, amount)]


def turn(floor, thing, word):
    """A thing is turned to another phase."""
    pit = floor.pit_of(thing)
    if word not in (OPEN, CALL, SHUT) or word == pit.phase_now:
        raise BadPhase(word)
    pit.phase_now = word
    events = [("phase", thing, word)]
    if word == OPEN:
        events.extend(opened(floor, pit))
        events.extend(wake(floor, pit))
    return events


def opened(floor, pit):
    """The opening of a thing."""
    price, volume, events, rows, floor.next_rank = opening(pit.book.rows(), pit.last_price, rank=floor.next_rank)
    settle(floor, pit, events)
    pit.book = book_of(rows)
    if price is not None:
        pit.anchor_price = price
    return [("opened", pit.name, price, volume)] + events
