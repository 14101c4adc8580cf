"""Points 8 and 9 once more, written for the tests alone, by fields that change and by fractions."""

from fractions import Fraction

from ringhall.words import BOTH, BUY, LESS, NEW, OLD, SHARE

FIELDS = ("number", "owner", "side", "price", "shown", "left", "seen", "rank")


class Standing:
    """A row whose fields change."""

    def __init__(self, told):
        for field, part in zip(FIELDS, told):
            setattr(self, field, part)

    def told(self):
        """The row."""
        return tuple(getattr(self, field) for field in FIELDS)

    def worse(self):
        """Greater where it comes later on its side."""
        return (-self.price if self.side == BUY else self.price, self.rank)


class Meeting:
    """One coming order and all rows."""

    def __init__(self, rows, coming, rank):
        self.rows = [Standing(told) for told in rows]
        self.number, self.owner, self.side, self.price, self.left, self.guard = coming
        self.rank = rank
        self.events = []
        self.halted = False

    def level(self):
        """All rows of the best price, by rank."""
        others = sorted((one for one in self.rows if one.side != self.side), key=Standing.worse)
        return [one for one in others if one.price == others[0].price]

    def lets(self, price):
        """Whether the price is let by."""
        if self.price is None or price == self.price:
            return True
        return (price < self.price) is (self.side == BUY)

    def meet(self, band, anchor, rule):
        """Goes through all steps."""
        while self.left:
            level = self.level()
            if not level or not self.lets(level[0].price):
                return
            if band is not None and not anchor - band <= level[0].price <= anchor + band:
                self.halted = True
                return
            own = [one for one in (level if rule == SHARE else level[:1]) if one.owner == self.owner]
            if own:
                self.guarded(own[0])
            elif rule == SHARE:
                self.share(level)
            else:
                self.trade(level[0], min(self.left, level[0].seen))
                self.behind(level[:1])

    def guarded(self, own):
        """A step with an own row."""
        if self.guard == LESS:
            amount = min(self.left, own.left)
            hidden = own.left - own.seen
            own.left -= amount
            own.seen -= max(0, amount - hidden)
            self.left -= amount
            self.events.append(("less", own.number, self.number, amount))
            self.behind([own])
        if self.guard in (OLD, BOTH):
            self.events.append(("off", own.number, own.left, "guard"))
            self.rows.remove(own)
        if self.guard in (NEW, BOTH):
            self.events.append(("off", self.number, self.left, "guard"))
            self.left = 0

    def trade(self, one, amount):
        """A trade with one row."""
        one.left -= amount
        one.seen -= amount
        self.left -= amount
        pair = (self.number, one.number) if self.side == BUY else (one.number, self.number)
        self.events.append(("trade", *pair, one.price, amount))

    def share(self, level):
        """A step with all rows of a price."""
        together = sum(one.seen for one in level)
        amounts = [one.seen for one in level]
        if self.left < together:
            amounts = [Fraction(self.left * one.seen, together).__floor__() for one in level]
            at = 0
            while sum(amounts) < self.left:
                amounts[at] += 1
                at += 1
        for one, amount in zip(level, amounts):
            if amount:
                self.trade(one, amount)
        self.behind(level)

    def behind(self, rows):
        """What shows anew and what is gone."""
        for one in rows:
            if one.seen == 0 and one.left == 0:
                self.rows.remove(one)
            elif one.seen == 0:
                one.seen = one.left if one.shown is None else min(one.shown, one.left)
                one.rank = self.rank
                self.rank += 1
                self.events.append(("shown", one.number, one.seen))


def oracle_meet(rows, coming, *, rank, band=None, anchor=None, rule="rank"):
    """What plain_meet is to tell."""
    meeting = Meeting(rows, coming, rank)
    meeting.meet(band, anchor, rule)
    behind = sorted(meeting.rows, key=lambda one: (one.side, one.worse()))
    return meeting.events, [one.told() for one in behind], meeting.left, meeting.halted, meeting.rank
