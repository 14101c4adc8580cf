"""Deeds for a hall, made by a seed."""

import random

from ringhall.orders import Order, listed
from ringhall.words import BUY, SELL

OWNERS = ("ann", "bob", "cid", "dan")

NO_DEEDS = [
    None, (), [], 5, "tell", ("tell",), ("cancel", True), ("cancel", "0"), ("sweep", None), ("nosuch", 1),
    ("change", 0, "5", None), ("change", 0, 5), ("phase", "gold"), ("several", []), ["cancel", 0], ("cancel", 0, 0),
]


def some_things(chance, names=("gold", "tin")):
    """Things of either rule, with and without a band."""
    return [
        listed(
            name, chance.randint(97, 103),
            band=chance.choice([None, None, 0, 1, 3, 5, 1000000]), rule=chance.choice(["rank", "share"]),
        )
        for name in names
    ]


def some_order(chance, names=("gold", "tin"), owners=OWNERS, low=96, high=104, most=30, stops=0.25):
    """An order."""
    life = chance.choice(["rest", "rest", "rest", "rest", "now", "whole", "only"])
    amount = chance.randint(1, most)
    price = chance.randint(low, high)
    shown = None
    if life in ("now", "whole"):
        price = chance.choice([None, price])
    elif chance.random() < 0.4:
        shown = chance.randint(-(-amount // 20), amount)
    stop = chance.randint(low, high) if chance.random() < stops else None
    guard = chance.choice(["old", "new", "both", "less"])
    side = chance.choice([BUY, SELL])
    return Order(
        chance.choice(owners), chance.choice(names), side, amount,
        price=price, shown=shown, stop=stop, life=life, guard=guard,
    )


def some_deed(chance, taken, names=("gold", "tin"), owners=OWNERS, turns=0.12, wrong=0.04, **bounds):
    """A deed for a hall that has taken so many orders."""
    dice = chance.random()
    if dice < wrong:
        return chance.choice(NO_DEEDS + [("tell", some_order(chance, names=("lead",)))])
    if dice < wrong + turns:
        return ("phase", chance.choice(names), chance.choice(["open", "open", "open", "call", "shut", "Open"]))
    dice = chance.random()
    if dice < 0.07:
        return ("cancel", chance.randint(-1, taken))
    if dice < 0.09:
        return ("sweep", chance.choice(owners + ("zoe",)))
    if dice < 0.28:
        price = chance.choice([None, chance.randint(95, 105)])
        amount = chance.choice([None, chance.randint(1, 40), chance.choice([0, 1, 2, 3, 1000, 1000000001])])
        return ("change", chance.randint(max(0, taken - 12), taken), price, amount)
    return ("tell", some_order(chance, names, owners, **bounds))


def some_deeds(seed, many, **bounds):
    """A row of deeds, as if each order told were taken."""
    chance = random.Random(seed)
    deeds = []
    taken = 0
    for _ in range(many):
        deed = some_deed(chance, taken, **bounds)
        if isinstance(deed, tuple) and deed[:1] == ("tell",) and len(deed) == 2:
            taken += 1
        deeds.append(deed)
    return deeds
