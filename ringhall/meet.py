"""How a coming order meets the rows of a book: as by the plain rule, without looking through them all."""

from ringhall.book import Book
from ringhall.orders import lets
from ringhall.plain import against, step, too_far
from ringhall.words import RANK, SHARE


def meet(book, coming, *, rank, band=None, anchor=None, rule=RANK):
    """Lets a coming order meet a book: (events, left, halted, rank)."""
    side, price, left = coming[2], coming[3], coming[4]
    events = []
    while left > 0:
        best = book.best(against(side))
        if best is None or not lets(price, side, best[3]):
            break
        if too_far(best[3], band, anchor):
            return events, left, True, rank
        met = book.level(best[2], best[3]) if rule == SHARE else [best]
        told, out, back, left, rank = step(met, coming, left, rank)
        exchange(book, out, back)
        events.extend(told)
    return events, left, False, rank


def exchange(book, out, back):
    """Takes rows out of a book and puts others in their place."""
    for row in out:
        book.take(row[0])
    # By rank each goes to the end of its queue at once, also those that show anew.
    for row in sorted(back, key=lambda row: row[7]):
        book.put(row)


def would(book, coming, *, band=None, anchor=None, rule=RANK):
    """What a coming order would trade with a book, and for how much: (traded, money)."""
    rows = book.rows()
    beside = Book()
    for row in rows:
        if row[2] == against(coming[2]) and lets(coming[3], coming[2], row[3]):
            beside.put(row)
    # What shows anew goes behind all that stand; by how much does not matter.
    rank = max([row[7] for row in rows], default=0) + 1
    told = meet(beside, coming, rank=rank, band=band, anchor=anchor, rule=rule)
    trades = [event for event in told[0] if event[0] == "trade"]
    return sum([trade[4] for trade in trades]), sum([trade[3] * trade[4] for trade in trades])
