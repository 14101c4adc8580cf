"""A desk that is told rows of words and answers each with a text."""

from ringhall.errors import NoRow
from ringhall.figures import number_of
from ringhall.hall import Hall
from ringhall.kinds import is_amount, is_band, is_name, is_price
from ringhall.texts import event_text, read_order
from ringhall.words import BUY, RANK, SELL, SHARE

NONE = "-"

# Of each deed but to tell, behind its word, the kinds of its words.
DEEDS = {
    "cancel": ("number",),
    "sweep": ("name",),
    "change": ("number", "number or none", "number or none"),
    "phase": ("name", "word"),
}

# Of each look likewise.
LOOKS = {
    "sight": ("name",),
    "cost": ("name", "side", "amount"),
    "cash": ("name",),
    "holding": ("name", "name"),
    "last": ("name",),
    "phase": ("name",),
    "picture": (),
}


class Desk:
    """A hall, once one is told, and what is asked of it in words."""

    def __init__(self):
        self._hall = None

    def say(self, row):
        """Does what a row tells, and answers it."""
        words = words_of(row)
        if words[0] == "hall":
            self._hall = hall_of(words)
            return "ok"
        if self._hall is None:
            raise NoRow()
        if words[0] == "several":
            rows = [part.split(" ") for part in " ".join(words[1:]).split(" / ")]
            return events_text(self._hall.several(deeds_of(rows)))
        if is_of(LOOKS.get(words[0]), words):
            return looked(self._hall, words)
        return events_text(self._hall.do(deeds_of([words])[0]))


def words_of(row):
    """The words of a row."""
    if not isinstance(row, str):
        raise NoRow()
    words = row.split(" ")
    if "" in words:
        raise NoRow()
    return words


def hall_of(words):
    """The hall that a row tells."""
    reach = number_of(words[1]) if len(words) > 2 else None
    things = [word.split(":") for word in words[2:]]
    if reach is None or not all([is_thing(parts) for parts in things]):
        raise NoRow()
    if len({parts[0] for parts in things}) < len(things):
        raise NoRow()
    return Hall([(name, number_of(start), number_of(band), rule) for name, start, band, rule in things], reach=reach)


def is_thing(parts):
    """Whether these parts of a word tell a thing."""
    if len(parts) != 4:
        return False
    name, start, band, rule = parts
    if not is_name(name) or not is_price(number_of(start)):
        return False
    return (band == NONE or is_band(number_of(band))) and rule in (RANK, SHARE)


def is_of(kinds, words):
    """Whether the words of a row behind its first are of these kinds and within their bounds."""
    if kinds is None or len(words) != len(kinds) + 1:
        return False
    return all([is_so(kind, word) for kind, word in zip(kinds, words[1:])])


def is_so(kind, word):
    """Whether a word is of this kind."""
    if kind == "name":
        return is_name(word)
    if kind == "side":
        return word in (BUY, SELL)
    if kind == "amount":
        return is_amount(number_of(word))
    if kind == "word":
        return True
    return number_of(word) is not None or word == NONE and kind == "number or none"


def deeds_of(rows):
    """The deeds that rows tell."""
    for words in rows:
        if not is_of(DEEDS.get(words[0]), words) and (words[0] != "tell" or len(words) == 1):
            raise NoRow()
    # A text that writes no order is refused only where all of these are rows.
    return [deed_of(words) for words in rows]


def deed_of(words):
    """The deed that a row tells."""
    if words[0] == "tell":
        return "tell", read_order(" ".join(words[1:]))
    parts = [number_of(word) if kind.startswith("number") else word for kind, word in zip(DEEDS[words[0]], words[1:])]
    return tuple([words[0]] + parts)


def events_text(events):
    """The texts of events."""
    return "; ".join([event_text(event) for event in events]) or NONE


def looked(hall, words):
    """The answer to a look."""
    look = words[0]
    if look == "sight":
        return " | ".join([side_text(side) for side in hall.sight(words[1])])
    if look == "cost":
        traded, money = hall.cost(words[1], words[2], number_of(words[3]))
        return f"{traded} {money}"
    if look == "cash":
        return str(hall.cash(words[1]))
    if look == "holding":
        return str(hall.holding(words[1], words[2]))
    if look == "last":
        return str(hall.last(words[1]))
    if look == "phase":
        return hall.phase_of(words[1])
    return hall.picture().replace("\n", " / ")


def side_text(side):
    """What is seen of a side."""
    return ", ".join([f"{price} {seen} {rows}" for price, seen, rows in side]) or NONE
