"""Points 12 to 19 once more, for the tests alone: a hall kept as plain lists, all looked through anew at each step."""

import copy

from ringhall.errors import (
    BadOrder, BadPhase, HallError, NoDeed, NoOrder, NoThing, OverReach, Refused, Shut,
)
from ringhall.opening import opening
from ringhall.orders import Order, lets, ranked
from ringhall.plain import plain_meet
from ringhall.words import BUY, REACH

FIELDS = ("owner", "thing", "side", "price", "shown", "stop", "life", "guard")


def whole(told):
    """Whether it is a whole number."""
    return type(told) is int


class PlainHall:
    """A hall as plain lists: things, orders, and all trades that ever were."""

    def __init__(self, things, *, reach=REACH):
        self.reach = reach
        self.things = [
            dict(name=name, start=start, band=band, rule=rule, phase="open", last=start, anchor=start)
            for name, start, band, rule in things
        ]
        self.orders = []
        self.trades = []
        self.number = 0
        self.rank = 0

    def thing(self, name):
        """The thing of this name."""
        for one in self.things:
            if one["name"] == name:
                return one
        raise NoThing(name)

    def order(self, number):
        """The order of this number."""
        for one in self.orders:
            if one["number"] == number:
                return one
        raise NoOrder(number)

    def row(self, one):
        """The row of an order that stands."""
        return tuple(one[part] for part in ("number", "owner", "side", "price", "shown", "left", "seen", "rank"))

    def standing(self, name):
        """The rows of a thing."""
        self.thing(name)
        return ranked([self.row(one) for one in self.orders if one["thing"] == name and one["is"] == "stands"])

    def waiting(self, name):
        """The numbers of a thing's orders that wait."""
        self.thing(name)
        return sorted(one["number"] for one in self.orders if one["thing"] == name and one["is"] == "waits")

    def phase_of(self, name):
        return self.thing(name)["phase"]

    def last(self, name):
        return self.thing(name)["last"]

    def anchor(self, name):
        return self.thing(name)["anchor"]

    def cash(self, owner):
        """The cash of an owner, by all trades."""
        got = sum(price * amount for _, _, seller, price, amount in self.trades if seller == owner)
        return got - sum(price * amount for _, buyer, _, price, amount in self.trades if buyer == owner)

    def holding(self, owner, name):
        """The holding of an owner, by all trades."""
        self.thing(name)
        got = sum(amount for thing, buyer, _, _, amount in self.trades if (thing, buyer) == (name, owner))
        return got - sum(amount for thing, _, seller, _, amount in self.trades if (thing, seller) == (name, owner))

    def __len__(self):
        return len(self.orders)

    def sight(self, name):
        """What anybody sees."""
        sides = ([], [])
        for row in self.standing(name):
            side = sides[0 if row[2] == BUY else 1]
            if side and side[-1][0] == row[3]:
                side[-1] = (row[3], side[-1][1] + row[6], side[-1][2] + 1)
            else:
                side.append((row[3], row[6], 1))
        return sides

    def cost(self, name, side, amount):
        """What a stranger's order without a price trades now."""
        coming = (self.number, "nobodyatall", side, None, amount, "old")
        events = plain_meet(self.standing(name), coming, rank=self.rank, rule=self.thing(name)["rule"])[0]
        trades = [event for event in events if event[0] == "trade"]
        return sum(event[4] for event in trades), sum(event[3] * event[4] for event in trades)

    def picture(self):
        """The picture."""
        lines = [f"reach {self.reach}"]
        for one in self.things:
            lines.append(" ".join(["thing"] + [word(part) for part in one.values()]))
        for one in self.things:
            assert list(one) == ["name", "start", "band", "rule", "phase", "last", "anchor"]
        lines.append(f"next {self.number} {self.rank}")
        for one in sorted(self.orders, key=lambda one: one["number"]):
            parts = [one["number"]] + [one[field] for field in FIELDS] + [one["left"]]
            parts += [one["seen"], one["rank"]] if one["is"] == "stands" else [None, None]
            lines.append(" ".join(["order"] + [word(part) for part in parts]))
        for owner in sorted({trade[1] for trade in self.trades} | {trade[2] for trade in self.trades}):
            line = f"owner {owner} {self.cash(owner)}"
            for name in sorted(one["name"] for one in self.things):
                if self.holding(owner, name):
                    line += f" {name} {self.holding(owner, name)}"
            if line != f"owner {owner} 0":
                lines.append(line)
        return "\n".join(lines)

    def check_reach(self, order, left):
        """Refuses an order over the reach."""
        others = [one for one in self.orders if one is not order]
        sums = {"buy": 0, "sell": 0}
        sums[order["side"]] += left
        for one in others:
            if (one["owner"], one["thing"]) == (order["owner"], order["thing"]):
                sums[one["side"]] += one["left"]
        holding = self.holding(order["owner"], order["thing"])
        if max(holding + sums["buy"], sums["sell"] - holding) > self.reach:
            raise OverReach(order["owner"])

    def tell(self, order):
        thing = self.thing(order.thing)
        if thing["phase"] == "shut":
            raise Shut(order.thing)
        one = {field: getattr(order, field) for field in FIELDS}
        self.check_reach(one, order.amount)
        one.update({"number": self.number, "left": order.amount, "is": "comes"})
        self.number += 1
        self.orders.append(one)
        events = [("taken", one["number"])]
        if one["stop"] is not None and (thing["phase"] == "call" or not self.reached(one)):
            one["is"] = "waits"
            return events + [("waits", one["number"])]
        if thing["phase"] == "call" and one["life"] in ("now", "whole"):
            return events + self.off(one, one["life"])
        return events + self.enters(one)

    def reached(self, one):
        """Whether the stop of an order is reached."""
        last = self.thing(one["thing"])["last"]
        return last >= one["stop"] if one["side"] == BUY else last <= one["stop"]

    def off(self, one, why):
        """Takes an order off."""
        self.orders = [other for other in self.orders if other is not one]
        return [("off", one["number"], one["left"], why)]

    def enters(self, one):
        """Stands in a call, else comes and wakes."""
        if self.thing(one["thing"])["phase"] == "call":
            return self.rests(one)
        events = self.comes(one)
        return events + self.wakes(one["thing"])

    def wakes(self, name):
        """Whatever waits and is reached comes."""
        events = []
        while self.thing(name)["phase"] == "open":
            due = [one for one in self.orders if one["thing"] == name and one["is"] == "waits" and self.reached(one)]
            if not due:
                return events
            first = min(due, key=lambda one: one["number"])
            first["is"] = "comes"
            events += [("woken", first["number"])] + self.comes(first)
        return events

    def rests(self, one):
        """Lets an order stand."""
        one["is"] = "stands"
        one["seen"] = one["left"] if one["shown"] is None else min(one["left"], one["shown"])
        one["rank"] = self.rank
        self.rank += 1
        return [("rests", one["number"], one["seen"])]

    def comes(self, one):
        """Point 14, but for waking."""
        thing = self.thing(one["thing"])
        others = [row for row in self.standing(one["thing"]) if row[2] != one["side"]]
        if one["life"] == "only" and any(lets(one["price"], one["side"], row[3]) for row in others):
            return self.off(one, "only")
        coming = (one["number"], one["owner"], one["side"], one["price"], one["left"], one["guard"])
        more = {"rank": self.rank, "band": thing["band"], "anchor": thing["anchor"], "rule": thing["rule"]}
        events, rows, left, halted, rank = plain_meet(self.standing(one["thing"]), coming, **more)
        if one["life"] == "whole" and sum(event[4] for event in events if event[0] == "trade") < one["left"]:
            return self.off(one, "whole")
        self.behind(thing, events, rows, rank)
        one["left"] = left
        if halted:
            events.append(("halt", one["thing"]))
            thing["phase"] = "call"
        if left == 0:
            self.orders = [other for other in self.orders if other is not one]
            return events
        return events + (self.off(one, "now") if one["life"] == "now" else self.rests(one))

    def behind(self, thing, events, rows, rank):
        """Takes over the rows behind events, and the trades among these."""
        owners = {one["number"]: one["owner"] for one in self.orders}
        for event in events:
            if event[0] == "trade":
                self.trades.append((thing["name"], owners[event[1]], owners[event[2]], event[3], event[4]))
                thing["last"] = event[3]
        self.rank = rank
        told = {row[0]: row for row in rows}
        kept = []
        for one in self.orders:
            if one["thing"] != thing["name"] or one["is"] != "stands":
                kept.append(one)
            elif one["number"] in told:
                one["left"], one["seen"], one["rank"] = told[one["number"]][5:]
                kept.append(one)
        self.orders = kept

    def cancel(self, number):
        return self.off(self.order(number), "cancel")

    def sweep(self, owner):
        events = []
        for number in sorted(one["number"] for one in self.orders if one["owner"] == owner):
            events += self.cancel(number)
        return events

    def change(self, number, *, price=None, amount=None):
        one = self.order(number)
        if self.phase_of(one["thing"]) == "shut":
            raise Shut(one["thing"])
        if price is not None and not (whole(price) and 0 < price <= 1000000):
            raise BadOrder("price")
        if amount is None and price is None:
            raise BadOrder("amount")
        if amount is not None:
            if not (whole(amount) and 0 < amount <= 1000000000):
                raise BadOrder("amount")
            if one["shown"] is not None and one["shown"] * 20 < amount:
                raise BadOrder("amount")
            self.check_reach(one, amount)
        amount = one["left"] if amount is None else amount
        other_price = price is not None and price != one["price"]
        if one["is"] == "stands" and not other_price and amount <= one["left"]:
            by = one["left"] - amount
            one["left"] = amount
            one["seen"] = min(one["seen"], amount)
            return [("less", number, by)] if by else []
        one["left"] = amount
        one["price"] = one["price"] if price is None else price
        if one["is"] == "waits":
            return [("changed", number)]
        one["is"] = "comes"
        return [("changed", number)] + self.enters(one)

    def phase(self, name, word):
        thing = self.thing(name)
        if word not in ("open", "call", "shut") or thing["phase"] == word:
            raise BadPhase(word)
        thing["phase"] = word
        events = [("phase", name, word)]
        if word == "open":
            price, volume, told, rows, rank = opening(self.standing(name), thing["last"], rank=self.rank)
            events += [("opened", name, price, volume)] + told
            self.behind(thing, told, rows, rank)
            if price is not None:
                thing["anchor"] = price
            events += self.wakes(name)
        return events

    def do(self, deed):
        """One deed."""
        if not plain_deed(deed):
            raise NoDeed()
        if deed[0] == "change":
            return self.change(deed[1], price=deed[2], amount=deed[3])
        return getattr(self, deed[0])(*deed[1:])

    def several(self, deeds):
        kept = copy.deepcopy(vars(self))
        events = []
        for place, deed in enumerate(deeds):
            try:
                events += self.do(deed)
            except HallError:
                vars(self).update(kept)
                raise Refused(place)
        return events

    def foretold(self, order):
        return copy.deepcopy(self).tell(order)


def plain_deed(deed):
    """Whether it is a deed."""
    if type(deed) is not tuple or not deed:
        return False
    kinds = [type(part) for part in deed[1:]]
    if deed[0] == "change":
        none_or_int = (int, type(None))
        return len(kinds) == 3 and kinds[0] is int and kinds[1] in none_or_int and kinds[2] in none_or_int
    told = {"tell": [Order], "cancel": [int], "sweep": [str], "phase": [str, str]}
    return isinstance(deed[0], str) and deed[0] in told and kinds == told[deed[0]]


def word(part):
    """A part of a line."""
    return "-" if part is None else str(part)


def told_by(hall, deed):
    """What a deed tells: its events, or what is known of its refusal."""
    try:
        return hall.do(deed)
    except HallError as why:
        return refusal(why)


def refusal(why):
    """The kind of a refusal, its fields, and those of what it came from."""
    cause = why.__cause__
    return type(why).__name__, vars(why), None if cause is None else (type(cause).__name__, vars(cause))
