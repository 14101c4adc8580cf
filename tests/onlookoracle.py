"""Point 23 once more, for the tests alone: of rows told, the first word that is not so, from the rows themselves."""

MOST = 1000000000

KINDS = {
    "stands": ("mark", "side", "price", "amount"), "met": ("mark", "amount"), "next": ("mark", "amount"),
    "less": ("mark", "amount"), "gone": ("mark",),
}


def is_kind(kind, part):
    """Whether a part is of this kind."""
    if kind == "side":
        return isinstance(part, str) and part in ("buy", "sell")
    low, high = {"mark": (0, 10 ** 70), "price": (1, 1000000), "amount": (1, MOST)}[kind]
    return type(part) is int and low <= part <= high


def is_row(row):
    """Whether it is a row at all."""
    if type(row) is not tuple or not row or type(row[0]) is not str or row[0] not in KINDS:
        return False
    kinds = KINDS[row[0]]
    return len(row) == len(kinds) + 1 and all(map(is_kind, kinds, row[1:]))


def queue_of(told):
    """What stands behind rows: a list of [mark, side, price, seen], of one price in their order."""
    queue = []
    sides = {}
    for row in told:
        word, mark = row[:2]
        if word == "stands":
            sides[mark] = row[2:4]
            queue.append([mark, *row[2:]])
        elif word == "next":
            queue.append([mark, *sides[mark], row[2]])
        else:
            one = [other for other in queue if other[0] == mark][0]
            one[3] = {"met": one[3] - row[-1], "less": row[-1], "gone": 0}[word]
            queue = [other for other in queue if other[3] > 0]
    return queue


def best_of(queue, side):
    """The best of a side, or None."""
    best = None
    for one in queue:
        if one[1] == side and (best is None or (one[2] > best[2] if side == "buy" else one[2] < best[2])):
            best = one
    return best


def wrong(told, row):
    """The word of the first for which a row may not follow those told, or None."""
    if not is_row(row):
        return "row"
    word, mark = row[:2]
    queue = queue_of(told)
    standing = [one for one in queue if one[0] == mark]
    if word == "stands":
        if mark != sum(other[0] == "stands" for other in told):
            return "number"
        best = best_of(queue, "sell" if row[2] == "buy" else "buy")
        crossed = best is not None and (row[3] >= best[2] if row[2] == "buy" else row[3] <= best[2])
        return "price" if crossed else None
    if word == "next":
        if not told or told[-1][1] != mark:
            return "number"
        return None if told[-1][0] == "met" and not standing and next_so(told, row) else "next"
    if not standing:
        return "number"
    one = standing[0]
    if word == "met" and best_of(queue, one[1]) is not one:
        return "best"
    if word == "met" and row[2] > one[3] or word == "less" and row[2] >= one[3]:
        return "amount"
    return None


def next_so(told, row):
    """Whether a part goes with those that its order showed ahead."""
    own = [other for other in told if other[1] == row[1]]
    parts = [own[0][4]] + [other[2] for other in own if other[0] == "next"]
    if any(other[0] == "less" for other in own) or any(part < parts[0] for part in parts):
        return False
    parts.append(row[2])
    return row[2] <= parts[0] and sum(parts) <= min(MOST, 20 * parts[0])


def sight_of(told):
    """What anybody sees behind rows."""
    sides = ([], [])
    queue = queue_of(told)
    for at, side in enumerate(("buy", "sell")):
        prices = sorted({one[2] for one in queue if one[1] == side}, reverse=side == "buy")
        for price in prices:
            seen = [one[3] for one in queue if one[1:3] == [side, price]]
            sides[at].append((price, sum(seen), len(seen)))
    return sides
