"""Point 18 once more, for the tests alone: the first line of a text that is not so, by patterns."""

import re

NUMBER = r"(0|[1-9][0-9]{0,59})"
WHOLE = r"(0|-?[1-9][0-9]{0,59})"
NAME = r"([a-z]{1,8})"
PRICE = r"([1-9][0-9]{0,5}|1000000)"
AMOUNT = r"([1-9][0-9]{0,8}|1000000000)"
BAND = r"(-|0|[1-9][0-9]{0,5}|1000000)"

THING = f"thing {NAME} {PRICE} {BAND} (rank|share) (open|call|shut) {PRICE} {PRICE}"
ORDER = (
    f"order {NUMBER} {NAME} {NAME} (buy|sell) (-|{PRICE[1:-1]}) (-|{AMOUNT[1:-1]}) (-|{PRICE[1:-1]}) "
    f"(rest|now|whole|only) (old|new|both|less) {AMOUNT} (-|{AMOUNT[1:-1]}) (-|{NUMBER[1:-1]})"
)


def first_wrong(text):
    """The number of the first line that is not so, or how many there are where one lacks, or None."""
    lines = text.split("\n")
    at = 0
    if not re.fullmatch(f"reach {NUMBER}", lines[0]):
        return 0
    at, things = 1, []
    while at < len(lines) and lines[at].startswith("thing "):
        told = re.fullmatch(THING, lines[at])
        if not told or told[1] in things:
            return at
        things.append(told[1])
        at += 1
    if at == len(lines):
        return at
    told = re.fullmatch(f"next {NUMBER} {NUMBER}", lines[at])
    if not things or not told:
        return at
    return wrong_behind(lines, at + 1, things, int(told[1]), int(told[2]))


def wrong_behind(lines, at, things, next_number, next_rank):
    """The first wrong line of those of orders and owners."""
    ahead, ranks = -1, []
    while at < len(lines) and lines[at].startswith("order "):
        told = re.fullmatch(ORDER, lines[at])
        if not told or not order_so(told, things):
            return at
        if not ahead < int(told[1]) < next_number:
            return at
        ahead = int(told[1])
        if told[12] != "-":
            if int(told[12]) in ranks or int(told[12]) >= next_rank:
                return at
            ranks.append(int(told[12]))
        at += 1
    name = ""
    while at < len(lines):
        if not re.fullmatch(f"owner {NAME} {WHOLE}( {NAME} {WHOLE})*", lines[at]):
            return at
        words = lines[at].split(" ")
        held = words[3::2]
        if words[1] <= name or held != sorted(set(held)) or not set(held) <= set(things):
            return at
        name = words[1]
        at += 1
    return None


def order_so(told, things):
    """Whether what an order's line tells goes together."""
    _, owner, thing, side, price, shown, stop, life, guard, left, seen, rank = told.groups()
    stands_or_comes = life in ("rest", "only")
    if thing not in things or price == "-" and stands_or_comes or shown != "-" and not stands_or_comes:
        return False
    if shown != "-" and int(shown) * 20 < int(left):
        return False
    if seen == "-" or rank == "-":
        return seen == rank and stop != "-"
    return stands_or_comes and int(seen) <= int(left) and (shown == "-" or int(seen) <= int(shown))


def has_noughts(text):
    """Whether a line of an owner tells a nought that no hall tells."""
    for line in text.split("\n"):
        words = line.split(" ")
        if words[0] == "owner" and ("0" in words[4::2] or words[2:] == ["0"]):
            return True
    return False
