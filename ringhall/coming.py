"""How an order comes, and what comes of it: trades, what stands or is taken off, halts, and others that wake."""

from ringhall.meet import meet, would
from ringhall.orders import lets
from ringhall.plain import against
from ringhall.words import CALL, NOW, ONLY, OPEN, WHOLE


def come_and_wake(floor, pit, number):
    """An order that neither stands nor waits comes, and then whatever it wakes."""
    return come(floor, pit, number) + wake(floor, pit)


def wake(floor, pit):
    """While the thing is open each waiting order comes whose stop is reached, the least number first."""
    events = []
    while pit.phase_now == OPEN:
        number = pit.waits.reached(pit.last_price)
        if number is None:
            break
        floor.take_down(number)
        events.append(("woken", number))
        events.extend(come(floor, pit, number))
    return events


def come(floor, pit, number):
    """An order comes to an open thing."""
    slip = floor.slips[number]
    left = floor.left[number]
    if slip.life == ONLY and has_any_let_by(pit.book, slip):
        return off(floor, number, ONLY)
    coming = (number, slip.owner, slip.side, slip.price, left, slip.guard)
    if slip.life == WHOLE and not trades_wholly(pit, coming):
        return off(floor, number, WHOLE)
    events, left, halted, floor.next_rank = meet(
        pit.book, coming, rank=floor.next_rank, band=pit.band, anchor=pit.anchor_price, rule=pit.rule
    )
    settle(floor, pit, events)
    if halted:
        pit.phase_now = CALL
        events.append(("halt", pit.name))
    if left > 0:
        events.extend(off(floor, number, NOW) if slip.life == NOW else rest(floor, number))
    return events


def has_any_let_by(book, slip):
    """Whether a book has a row whose price an order lets by."""
    best = book.best(against(slip.side))
    return best is not None and lets(slip.price, slip.side, best[3])


def trades_wholly(pit, coming):
    """Whether all of a coming order would trade."""
    traded, _ = would(pit.book, coming, band=pit.band, anchor=pit.anchor_price, rule=pit.rule)
    return traded == coming[4]


def settle(floor, pit, events):
    """Moves to the accounts and takes off the orders what the rows of a thing are already less by."""
    for event in events:
        word = event[0]
        if word == "trade":
            _, buyer, seller, price, amount = event
            owners = floor.slips[buyer].owner, floor.slips[seller].owner
            floor.accounts.trade(pit.name, owners[0], owners[1], price, amount)
            pit.last_price = price
            floor.lessen(buyer, amount)
            floor.lessen(seller, amount)
        elif word == "less":
            floor.lessen(event[1], event[3])
            floor.lessen(event[2], event[3])
        elif word == "off":
            floor.lessen(event[1], event[2])


def rest(floor, number):
    """An order stands."""
    return [("rests", number, floor.put_up(number))]


def off(floor, number, word):
    """An order that neither stands nor waits is taken off, for the reason that the word tells."""
    left = floor.left[number]
    floor.lessen(number, left)
    return [("off", number, left, word)]
