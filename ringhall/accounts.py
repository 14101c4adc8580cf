"""What each owner has: cash, and of each thing a holding."""


class Accounts:
    """The cash and the holdings of all owners, 0 at first, below 0 too."""

    def __init__(self):
        self._cash = {}
        # Of each owner the holdings by thing.
        self._holdings = {}

    def trade(self, thing, buyer, seller, price, amount):
        """Moves an amount of a thing from who sells to who buys, and its price back."""
        self.credit(buyer, -price * amount)
        self.credit(seller, price * amount)
        self.supply(buyer, thing, amount)
        self.supply(seller, thing, -amount)

    def credit(self, owner, cash):
        """Gives cash to an owner."""
        self._cash[owner] = self.cash(owner) + cash

    def supply(self, owner, thing, amount):
        """Gives an amount of a thing to an owner."""
        if owner not in self._holdings:
            self._holdings[owner] = {}
        holdings = self._holdings[owner]
        holdings[thing] = holdings.get(thing, 0) + amount

    def cash(self, owner):
        """The cash of an owner."""
        return self._cash.get(owner, 0)

    def holding(self, owner, thing):
        """What an owner has of a thing."""
        if owner not in self._holdings:
            return 0
        return self._holdings[owner].get(thing, 0)

    def rows(self):
        """Of each owner with anything but 0, by name: (owner, cash, holdings), these by name, too."""
        told = []
        for owner in sorted(set(self._cash) | set(self._holdings)):
            holdings = self._holdings_of(owner)
            if self.cash(owner) != 0 or holdings:
                told.append((owner, self.cash(owner), holdings))
        return told

    def _holdings_of(self, owner):
        """The holdings of an owner that are not 0, by name of thing."""
        holdings = self._holdings.get(owner, {})
        return [(thing, holdings[thing]) for thing in sorted(holdings) if holdings[thing] != 0]

    def copied(self):
        """The same accounts, which go their own way."""
        beside = Accounts()
        beside._cash = dict(self._cash)
        beside._holdings = {owner: dict(self._holdings[owner]) for owner in self._holdings}
        return beside


def over(holding, buys, sells, reach):
    """Whether what buys and what sells have left could lead a holding beyond the reach."""
    return holding + buys > reach or sells - holding > reach
