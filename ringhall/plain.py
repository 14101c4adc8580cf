"""The plain rule by which a coming order meets rows: all of them are looked through anew at each step.

A row is (number, owner, side, price, shown, left, seen, rank),
a coming order (number, owner, side, price, left, guard).
"""

from ringhall.orders import lets, ranked
from ringhall.words import BOTH, BUY, LESS, NEW, OLD, RANK, SELL, SHARE


def plain_meet(rows, coming, *, rank, band=None, anchor=None, rule=RANK):
    """What a coming order brings about: (events, rows, left, halted, rank)."""
    side, price, left = coming[2], coming[3], coming[4]
    events = []
    halted = False
    while left > 0 and not halted:
        met = rows_met(rows, against(side), rule)
        if not met or not lets(price, side, met[0][3]):
            break
        halted = too_far(met[0][3], band, anchor)
        if not halted:
            told, out, back, left, rank = step(met, coming, left, rank)
            rows = [row for row in rows if row not in out] + back
            events.extend(told)
    return events, ranked(rows), left, halted, rank


def against(side):
    """The other side."""
    return SELL if side == BUY else BUY


def too_far(price, band, anchor):
    """Whether a band keeps a coming order from this price."""
    return band is not None and abs(price - anchor) > band


def rows_met(rows, side, rule):
    """The rows of a side that a step meets, by rank: the best one, by "share" all of its price."""
    others = [row for row in rows if row[2] == side]
    if not others:
        return []
    prices = [row[3] for row in others]
    best = max(prices) if side == BUY else min(prices)
    level = sorted([row for row in others if row[3] == best], key=lambda row: row[7])
    return level if rule == SHARE else level[:1]


def step(met, coming, left, rank):
    """One step with the rows that it meets: (events, rows out, rows back in, left, rank)."""
    for row in met:
        if row[1] == coming[1]:
            return step_with_own(row, coming, left, rank)
    return step_of_trades(met, coming, left, rank)


def step_with_own(row, coming, left, rank):
    """The step with a row of the coming one's owner, by the guard; told as step tells."""
    number, guard = coming[0], coming[5]
    if guard == LESS:
        amount = min(left, row[5])
        told, back, rank = shown_anew([hidden_first(row, amount)], rank)
        return [("less", row[0], number, amount)] + told, [row], back, left - amount, rank
    events = []
    out = []
    if guard in (OLD, BOTH):
        events.append(("off", row[0], row[5], "guard"))
        out.append(row)
    if guard in (NEW, BOTH):
        events.append(("off", number, left, "guard"))
        left = 0
    return events, out, [], left, rank


def step_of_trades(met, coming, left, rank):
    """The step with rows of other owners; told as step tells."""
    number, side = coming[0], coming[2]
    amounts = shares(left, [row[6] for row in met])
    events = []
    out = []
    less = []
    for row, amount in zip(met, amounts):
        if amount > 0:
            buyer, seller = (number, row[0]) if side == BUY else (row[0], number)
            events.append(("trade", buyer, seller, row[3], amount))
            out.append(row)
            less.append(seen_first(row, amount))
    told, back, rank = shown_anew(less, rank)
    return events + told, out, back, left - sum(amounts), rank


def shares(left, seen):
    """How much goes to each of some rows, by rank, of each of which so much is seen."""
    together = sum(seen)
    if left >= together:
        return list(seen)
    parts = [left * part // together for part in seen]
    # Less rows than there are get one more, and none of them had all that is seen of it.
    rest = left - sum(parts)
    return [part + 1 if at < rest else part for at, part in enumerate(parts)]


def seen_first(row, amount):
    """The row with so much less left, of what is seen first."""
    number, owner, side, price, shown, left, seen, rank = row
    return number, owner, side, price, shown, left - amount, max(0, seen - amount), rank


def hidden_first(row, amount):
    """The row with so much less left, of what is hidden first."""
    number, owner, side, price, shown, left, seen, rank = row
    return number, owner, side, price, shown, left - amount, min(seen, left - amount), rank


def shown_anew(rows, rank):
    """Of rows that have less: (events, the rows that still stand, the next rank)."""
    events = []
    standing = []
    for row in rows:
        number, owner, side, price, shown, left, seen, _ = row
        if seen > 0:
            standing.append(row)
        elif left > 0:
            seen = part_seen(shown, left)
            standing.append((number, owner, side, price, shown, left, seen, rank))
            events.append(("shown", number, seen))
            rank += 1
    return events, standing, rank


def part_seen(shown, left):
    """What is seen of an order that comes to stand or shows anew."""
    return left if shown is None else min(shown, left)
