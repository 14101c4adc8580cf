"""The opening of a thing: one price for all, what is dealt at it, and what it is worth.

A row is (number, owner, side, price, shown, left, seen, rank).
"""

from ringhall.orders import ranked
from ringhall.plain import seen_first, shown_anew
from ringhall.words import BUY, SELL


def table(rows):
    """For each price of a row, rising: (price, demand, supply)."""
    buys = left_by_price(rows, BUY)
    sells = left_by_price(rows, SELL)
    demand = sum([row[5] for row in rows if row[2] == BUY])
    supply = 0
    steps = []
    for price in sorted({row[3] for row in rows}):
        supply += sells.get(price, 0)
        steps.append((price, demand, supply))
        demand -= buys.get(price, 0)
    return steps


def left_by_price(rows, side):
    """For each price of a side, what its rows have left together."""
    told = {}
    for row in rows:
        if row[2] == side:
            told[row[3]] = told.get(row[3], 0) + row[5]
    return told


def price_of(steps, last):
    """The price of an opening and the volume at it, from a table: (price, volume)."""
    spans = spans_of(steps)
    most = max([min(demand, supply) for low, high, demand, supply in spans], default=0)
    if most == 0:
        return None, 0
    spans = [span for span in spans if min(span[2], span[3]) == most]
    least = min([abs(demand - supply) for low, high, demand, supply in spans])
    spans = [span for span in spans if abs(span[2] - span[3]) == least]
    return chosen(spans, last), most


def spans_of(steps):
    """The prices from the least to the greatest of a table, those alike side by side as one.

    Each span is (low, high, demand, supply): a price of the table, or all that lie between two of them.
    """
    spans = []
    for at, (price, demand, supply) in enumerate(steps):
        if at > 0 and price - steps[at - 1][0] > 1:
            # Between two prices demand is as at the upper one, supply as at the lower one.
            spans.append((steps[at - 1][0] + 1, price - 1, demand, steps[at - 1][2]))
        spans.append((price, price, demand, supply))
    return spans


def chosen(spans, last):
    """Of the prices of spans of one volume and one difference, rising, the one that is told."""
    wanted = [span for span in spans if span[2] > span[3]]
    offered = [span for span in spans if span[2] < span[3]]
    if wanted and offered:
        return nearer(wanted[-1][1], offered[0][0], last)
    if wanted:
        return wanted[-1][1]
    if offered:
        return offered[0][0]
    return max(spans[0][0], min(spans[-1][1], last))


def nearer(price, other, last):
    """The one of two prices that lies nearer to the last one."""
    return price if abs(price - last) < abs(other - last) else other


def opening(rows, last, *, rank):
    """What an opening brings about: (price, volume, events, rows, rank)."""
    price, volume = price_of(table(rows), last)
    if price is None:
        return None, 0, [], ranked(rows), rank
    better_first = ranked(rows)
    buys = [row for row in better_first if row[2] == BUY and row[3] >= price]
    sells = [row for row in better_first if row[2] == SELL and row[3] <= price]
    # The volume is all that one of these has left, so it is dealt where they end.
    pairs = paired(buys, sells)
    trades = [("trade", buyer, seller, price, amount) for buyer, seller, amount in pairs]
    told, standing, rank = shown_anew(behind(rows, pairs), rank)
    return price, volume, trades + told, ranked(standing), rank


def behind(rows, pairs):
    """The rows, by rank, less what the pairs deal, also those with nothing left."""
    dealt = {}
    for buyer, seller, amount in pairs:
        dealt[buyer] = dealt.get(buyer, 0) + amount
        dealt[seller] = dealt.get(seller, 0) + amount
    by_rank = sorted(rows, key=lambda row: row[7])
    return [seen_first(row, dealt.get(row[0], 0)) for row in by_rank]


def paired(buys, sells):
    """Pairs (buyer, seller, amount), each of the first buy and the first sell with something left.

    A sell above that buy's price is passed over.
    """
    bought = [row[5] for row in buys]
    sold = [row[5] for row in sells]
    buy = 0
    sell = 0
    pairs = []
    while buy < len(buys) and sell < len(sells):
        if sold[sell] == 0 or sells[sell][3] > buys[buy][3]:
            sell += 1
        elif bought[buy] == 0:
            buy += 1
        else:
            amount = min(bought[buy], sold[sell])
            pairs.append((buys[buy][0], sells[sell][0], amount))
            bought[buy] -= amount
            sold[sell] -= amount
    return pairs


def worth(rows, price):
    """What the rows gain together where all of them may deal at this price."""
    told = 0
    for row in rows:
        gain = row[3] - price if row[2] == BUY else price - row[3]
        told += row[5] * max(0, gain)
    return told


def paired_off(rows):
    """What can be dealt at most where each pair has a price of its own: (amount, cut, pairs)."""
    better_first = ranked(rows)
    buys = [row for row in better_first if row[2] == BUY]
    # The dearest sells go first: whatever buys one of these buys each of those that come later, too.
    sells = [row for row in reversed(better_first) if row[2] == SELL]
    pairs = paired(buys, sells)
    return sum([amount for buyer, seller, amount in pairs]), cut_of(table(rows)), pairs


def cut_of(steps):
    """The number for which buys above it and sells of it or below have the least left together."""
    if not steps:
        return 0
    cut = 0
    least = steps[0][1]
    for at, (price, demand, supply) in enumerate(steps):
        above = steps[at + 1][1] if at + 1 < len(steps) else 0
        if above + supply < least:
            least = above + supply
            cut = price
    return cut
