"""Reads the picture of a hall, line by line."""

from ringhall.errors import NoPicture
from ringhall.figures import number_of, whole_of
from ringhall.floor import Floor, Pit, Slip
from ringhall.hall import Hall
from ringhall.kinds import is_amount, is_band, is_name, is_price
from ringhall.orders import shows_enough
from ringhall.words import BOTH, BUY, CALL, LESS, NEW, NOW, OLD, ONLY, OPEN, RANK, REST, SELL, SHARE, SHUT, WHOLE

NONE = "-"

# Of each line's first word, those of the lines that it may stand behind.
BEHIND = {
    "reach": ("",),
    "thing": ("reach", "thing"),
    "next": ("thing",),
    "order": ("next", "order"),
    "owner": ("next", "order", "owner"),
}


def read_picture(text):
    """The hall of a picture."""
    if not isinstance(text, str):
        raise NoPicture(0)
    lines = text.split("\n")
    reading = Reading()
    for at, line in enumerate(lines):
        if not reading.reads(line.split(" ")):
            raise NoPicture(at)
    if not reading.is_all():
        raise NoPicture(len(lines))
    hall = reading.hall()
    told = hall.picture().split("\n")
    for at, line in enumerate(lines):
        # A nought among sums is so by itself, but no hall tells it.
        if at == len(told) or line != told[at]:
            raise NoPicture(at)
    return hall


class Reading:
    """What the lines of a picture have told so far."""

    def __init__(self):
        self._floor = Floor([], 0)
        # The first word of the line ahead, and the number and the owner that the next one is to be beyond.
        self._ahead = ""
        self._number = -1
        self._owner = ""
        # By rank the rows of the orders that stand.
        self._rows = {}

    def is_all(self):
        """Whether no line lacks."""
        return self._ahead in BEHIND["owner"]

    def hall(self):
        """The hall that all lines tell."""
        # By rank each goes to the end of its queue at once.
        for rank in sorted(self._rows):
            row = self._rows[rank]
            self._floor.pit_of_order(row[0]).book.put(row)
        hall = Hall([])
        hall.go_on_from(self._floor)
        return hall

    def reads(self, words):
        """Takes in the words of the next line, and tells whether it is so."""
        word = words[0]
        if word not in BEHIND or self._ahead not in BEHIND[word]:
            return False
        self._ahead = word
        if word == "reach":
            return self._reads_reach(words)
        if word == "thing":
            return self._reads_thing(words)
        if word == "next":
            return self._reads_next(words)
        if word == "order":
            return self._reads_order(words)
        return self._reads_owner(words)

    def _reads_reach(self, words):
        """Takes in the line of the reach."""
        if len(words) != 2 or number_of(words[1]) is None:
            return False
        floor = self._floor
        floor.reach = number_of(words[1])
        return True

    def _reads_thing(self, words):
        """Takes in the line of a thing."""
        if len(words) != 8 or not is_thing(words) or words[1] in self._floor.pits:
            return False
        _, name, start, band, rule, phase, last, anchor = words
        pit = Pit(name, number_of(start), number_of(band), rule)
        pit.phase_now = phase
        pit.last_price = number_of(last)
        pit.anchor_price = number_of(anchor)
        pits = self._floor.pits
        pits[name] = pit
        return True

    def _reads_next(self, words):
        """Takes in the line of the next number and rank."""
        if len(words) != 3 or number_of(words[1]) is None or number_of(words[2]) is None:
            return False
        floor = self._floor
        floor.next_number = number_of(words[1])
        floor.next_rank = number_of(words[2])
        return True

    def _reads_order(self, words):
        """Takes in the line of an order."""
        if len(words) != 13 or not is_order(words) or words[3] not in self._floor.pits:
            return False
        _, number, owner, thing, side, price, shown, stop, life, guard, left, seen, rank = words
        number = number_of(number)
        if not self._number < number < self._floor.next_number:
            return False
        self._number = number
        slip = Slip(owner, thing, side, number_of(price), number_of(shown), number_of(stop), life, guard)
        self._floor.enter(number, slip, number_of(left))
        if seen == NONE:
            self._floor.pits[thing].waits.put(number, side, slip.stop)
            return True
        return self._stands(number, slip, number_of(seen), number_of(rank))

    def _stands(self, number, slip, seen, rank):
        """Lets an order stand, where its rank may be."""
        if rank >= self._floor.next_rank or rank in self._rows:
            return False
        left = self._floor.left[number]
        self._rows[rank] = (number, slip.owner, slip.side, slip.price, slip.shown, left, seen, rank)
        return True

    def _reads_owner(self, words):
        """Takes in the line of an owner."""
        if len(words) < 3 or not is_name(words[1]) or words[1] <= self._owner or whole_of(words[2]) is None:
            return False
        self._owner = words[1]
        self._floor.accounts.credit(words[1], whole_of(words[2]))
        return self._reads_holdings(words[3::2], words[4::2])

    def _reads_holdings(self, things, holdings):
        """Takes in what the owner of the line has of things, by name."""
        if len(things) != len(holdings):
            return False
        behind = ""
        for thing, holding in zip(things, holdings):
            if thing <= behind or thing not in self._floor.pits or whole_of(holding) is None:
                return False
            behind = thing
            self._floor.accounts.supply(self._owner, thing, whole_of(holding))
        return True


def is_thing(words):
    """Whether the words of a line are of the kinds and within the bounds of a thing."""
    _, name, start, band, rule, phase, last, anchor = words
    return (
        is_name(name)
        and is_price(number_of(start))
        and (band == NONE or is_band(number_of(band)))
        and rule in (RANK, SHARE)
        and phase in (OPEN, CALL, SHUT)
        and is_price(number_of(last))
        and is_price(number_of(anchor))
    )


def is_order(words):
    """Whether the words of a line are of the kinds and within the bounds of an order."""
    _, number, owner, thing, side, price, shown, stop, life, guard, left, seen, rank = words
    return (
        number_of(number) is not None
        and is_name(owner)
        and side in (BUY, SELL)
        and (price == NONE or is_price(number_of(price)))
        and (shown == NONE or is_amount(number_of(shown)))
        and (stop == NONE or is_price(number_of(stop)))
        and life in (REST, NOW, WHOLE, ONLY)
        and guard in (OLD, NEW, BOTH, LESS)
        and is_amount(number_of(left))
        and (price != NONE or life in (NOW, WHOLE))
        and (shown == NONE or life in (REST, ONLY) and shows_enough(number_of(shown), number_of(left)))
        and (waits(stop, seen, rank) or stands(shown, life, left, seen, rank))
    )


def waits(stop, seen, rank):
    """Whether these words are those of an order that waits."""
    return seen == NONE and rank == NONE and stop != NONE


def stands(shown, life, left, seen, rank):
    """Whether these words, as far as they are so by themselves, are those of an order that stands."""
    if life not in (REST, ONLY) or number_of(rank) is None or not is_amount(number_of(seen)):
        return False
    return number_of(seen) <= number_of(left) and (shown == NONE or number_of(seen) <= number_of(shown))
