"""Rows and coming orders for the tests, made by hand and by a seed."""

import random

from ringhall.words import BOTH, BUY, LESS, NEW, OLD, RANK, SELL, SHARE

GUARDS = [OLD, NEW, BOTH, LESS]
RULES = [RANK, SHARE]
SIDES = [BUY, SELL]
MOST = 1000000000


def other(side):
    """The other side."""
    return SELL if side == BUY else BUY


def row(number, owner, side, price, left, rank=None, shown=None, seen=None):
    """A row; where not told its rank is its number, and as much is seen as where it comes to stand."""
    if seen is None:
        seen = left if shown is None else min(left, shown)
    return (number, owner, side, price, shown, left, seen, number if rank is None else rank)


def mirrored(told):
    """A row or a coming order as it is where buys and sells change places (about the price 100)."""
    return tuple(
        other(part) if at == 2 else 200 - part if at == 3 and part is not None else part
        for at, part in enumerate(told)
    )


def mirrored_event(event):
    """An event as it is where buys and sells change places."""
    if event[0] != "trade":
        return event
    return ("trade", event[2], event[1], 200 - event[3], event[4])


def some_row(chance, number, rank, side, low, high, most, owners):
    """A row that may stand in a hall."""
    left = chance.randint(1, most)
    shown = None
    if chance.random() < 0.6:
        # A twentieth at least; it may be above what is left.
        shown = chance.randint(-(-left // 20), left + 2)
    seen = left if shown is None else chance.randint(1, min(left, shown))
    return row(number, chance.choice(owners), side, chance.randint(low, high), left, rank, shown, seen)


def some_rows(chance, many, low=98, high=102, most=30, owners=("ann", "bob", "cid", "dan"), apart=True):
    """Rows of both sides in any order; where apart, buys below sells."""
    numbers = chance.sample(range(3 * many + 1), many)
    ranks = chance.sample(range(3 * many + 1), many)
    middle = chance.randint(low, high)
    rows = []
    for number, rank in zip(numbers, ranks):
        side = chance.choice(SIDES)
        bounds = (low, high)
        if apart:
            bounds = (low, middle) if side == BUY else (middle + 1, high + 1)
        rows.append(some_row(chance, number, rank, side, bounds[0], bounds[1], most, owners))
    return rows


def next_rank(rows):
    """A rank that a hall with these rows could come to next."""
    return max([told[7] for told in rows], default=-1) + 3


def some_coming(chance, rows, low=98, high=102, most=80, owners=("ann", "bob", "cid", "eve")):
    """A coming order with a number of its own."""
    number = max([told[0] for told in rows], default=-1) + 1
    price = None if chance.random() < 0.25 else chance.randint(low, high + 1)
    return (number, chance.choice(owners), chance.choice(SIDES), price, chance.randint(1, most), chance.choice(GUARDS))


def some_band(chance, low=98, high=102):
    """A band, or none, and an anchor."""
    return chance.choice([None, None, 0, 1, 2, 3, 1000000]), chance.randint(low - 1, high + 1)


def cases(seed, many, most_rows=12, **bounds):
    """Many times (rows, coming, what is told by name) of plain_meet."""
    chance = random.Random(seed)
    for _ in range(many):
        rows = some_rows(chance, chance.randint(0, most_rows), **bounds)
        coming = some_coming(chance, rows)
        band, anchor = some_band(chance)
        rule = chance.choice(RULES)
        yield rows, coming, {"rank": next_rank(rows), "band": band, "anchor": anchor, "rule": rule}
