"""How a coming order meets the rows of a book: as by the plain rule, without looking through them all."""

from ringhall.book import book_of
from ringhall.orders import lets
from ringhall.plain import against, step, too_far
from ringhall.words import RANK, SHARE


def meet(book, coming, *, rank, band=None, anchor=None, rule=RANK):
    """Lets a coming order meet a book: (events, left, halted, rank)."""
    side, price, left = coming[2], coming[3], coming[4]
    events = []
    while left > 0:
        best = book.best(against(side))
        if best is None or not lets(price, side, best[3]):
            break
        if too_far(best[3], band, anchor):
            return events, left, True, rank
        met = book.level(best[2], best[3]) if rule == SHARE else [best]
        told, out, back, left, rank = step(met, coming, left, rank)
        exchange(book, out, back)
        events.extend(told)
    return events, left, False, rank


def exchange(book, out, back):
    """Takes rows out of a book and puts others in their place."""
    ranks = {row[0]: row[7] for row in back}
    for row in out:
        if ranks.get(row[0]) != row[7]:
            book.take(row[0])
    # By rank each that shows anew goes to the end of its queue at once.
    for row in sorted(back, key=lambda row: row[7]):
        if book.row(row[0]) is None:
            book.put(row)
        else:
            book.renew(row)


def would(book, coming, *, band=None, anchor=None, rule=RANK):
    """What a coming order would trade with a book, and for how much: (traded, money)."""
    number, owner, side, own_price, left, guard = coming
    traded = 0
    money = 0
    for price in book.prices(against(side)):
        if left == 0 or not lets(own_price, side, price) or too_far(price, band, anchor):
            break
        # A price is met to its end ahead of the next, so nothing beyond what is met need be looked at.
        rows = book.level(against(side), price)
        told = meet(book_of(rows), (number, owner, side, price, left, guard), rank=rows[-1][7] + 1, rule=rule)
        left = told[1]
        amount = sum([event[4] for event in told[0] if event[0] == "trade"])
        traded += amount
        money += price * amount
    return traded, money
