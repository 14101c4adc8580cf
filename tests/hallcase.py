"""What the tests of a hall share."""

import unittest

from anything import alike
from plainhall import PlainHall, refusal
from ringhall.errors import HallError
from ringhall.hall import Hall
from ringhall.orders import Order, listed
from ringhall.words import BUY, SELL


def buy(owner, amount, price=None, thing="gold", **more):
    """An order to buy."""
    return Order(owner, thing, BUY, amount, price=price, **more)


def sell(owner, amount, price=None, thing="gold", **more):
    """An order to sell."""
    return Order(owner, thing, SELL, amount, price=price, **more)


def hall_of(*orders, things=(("gold", 100, None, "rank"),), **more):
    """A hall that was told these orders."""
    hall = Hall([listed(name, start, band=band, rule=rule) for name, start, band, rule in things], **more)
    for order in orders:
        hall.tell(order)
    return hall


def parts_of(hall, names=("gold",), owners=("ann", "bob", "cid", "dan", "eve")):
    """All that a hall tells of itself."""
    told = [hall.picture(), len(hall)]
    for name in names:
        told.append([hall.standing(name), hall.waiting(name), hall.sight(name)])
        told.append([hall.phase_of(name), hall.last(name), hall.anchor(name)])
        told.append([hall.cost(name, side, 7) for side in (BUY, SELL)])
        told.append([hall.holding(owner, name) for owner in owners])
    return told + [hall.cash(owner) for owner in owners]


class HallCase(unittest.TestCase):
    """A case that checks what deeds tell."""

    def tells(self, told, events):
        """Checks a list of events, in kinds, too."""
        self.assertTrue(alike(told, events), told)

    def refused(self, hall, kind, field, do, *told, **more):
        """Checks that something is refused, and that the hall stays as it is; field is (name, part)."""
        names = [line.split(" ")[1] for line in hall.picture().split("\n") if line.startswith("thing ")]
        ahead = parts_of(hall, names)
        with self.assertRaises(HallError) as caught:
            do(*told, **more)
        self.assertIs(type(caught.exception), kind, caught.exception)
        self.assertTrue(alike(vars(caught.exception), dict([field] if field else [])), vars(caught.exception))
        self.assertTrue(alike(parts_of(hall, names), ahead))
        return caught.exception

    def stands(self, hall, *rows, thing="gold"):
        """Checks the rows that stand, each told by (number, price, left, seen, rank)."""
        told = [(row[0], row[3], row[5], row[6], row[7]) for row in hall.standing(thing)]
        self.assertEqual(told, list(rows))

    def goes_as_plain(self, things, deeds, reach=10 ** 12):
        """Checks each deed, and the picture behind it, against a hall kept as plain lists; tells the hall."""
        hall = Hall(things, reach=reach)
        plain = PlainHall(things, reach=reach)
        for deed in deeds:
            self.assertTrue(alike(outcome(hall, deed), outcome(plain, deed)), deed)
            self.assertEqual(hall.picture(), plain.picture())
        return hall


def outcome(hall, deed):
    """What a deed tells, or its refusal."""
    try:
        return hall.do(deed)
    except HallError as why:
        return refusal(why)


def tape_of(hall, deeds):
    """The tape that a hall tells of deeds."""
    tape = []
    for deed in deeds:
        told = outcome(hall, deed)
        tape.append(told if isinstance(told, list) else [("none",)])
    return tape
