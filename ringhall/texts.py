"""Orders and events as texts."""

from ringhall.errors import BadOrder, NoText
from ringhall.figures import number_of
from ringhall.orders import Order
from ringhall.words import BOTH, BUY, LESS, NEW, NOW, OLD, ONLY, REST, SELL, WHOLE

# What may be told behind the thing, in this order: (the word ahead of it, the part of the order).
TOLD_BY_WORD = (("at", "price"), ("show", "shown"), ("stop", "stop"), ("life", "life"), ("guard", "guard"))

# What each of these parts may be written as; the usual life and guard are not written.
CHOICES = {
    "side": (BUY, SELL),
    "life": (NOW, WHOLE, ONLY),
    "guard": (NEW, BOTH, LESS),
    "by": ("by",),
}


def read_order(text):
    """The order that a text writes."""
    if not isinstance(text, str):
        raise NoText(0)
    words = text.split(" ")
    places = places_of(words)
    told = {part: words[places[part]] for part in places}
    numbers = {part: number_of(told[part]) for part in ("amount", "price", "shown", "stop") if part in told}
    try:
        return Order(
            told["owner"],
            told["thing"],
            told["side"],
            numbers["amount"],
            price=numbers.get("price"),
            shown=numbers.get("shown"),
            stop=numbers.get("stop"),
            life=told.get("life", REST),
            guard=told.get("guard", OLD),
        )
    except BadOrder as why:
        raise NoText(places.get(why.word, len(words))) from why


def places_of(words):
    """Of each part that the words tell where its word stands; refused is the first word not so by its kind."""
    places = {}
    at = 0
    for part in ("side", "amount", "thing"):
        check_word(words, at, part)
        places[part] = at
        at += 1
    for word, part in TOLD_BY_WORD:
        if at < len(words) and words[at] == word:
            check_word(words, at + 1, part)
            places[part] = at + 1
            at += 2
    check_word(words, at, "by")
    check_word(words, at + 1, "owner")
    places["owner"] = at + 1
    if at + 2 < len(words):
        raise NoText(at + 2)
    return places


def check_word(words, at, part):
    """Refuses a word that lacks, or is not so by the kind of the part that it is to tell."""
    if at >= len(words) or not is_so(part, words[at]):
        raise NoText(at)


def is_so(part, word):
    """Whether a word may tell this part, by its kind."""
    if part in ("owner", "thing"):
        # Whether it is a name is asked of the order, where names go ahead of numbers.
        return True
    if part in CHOICES:
        return word in CHOICES[part]
    return number_of(word) is not None


def event_text(event):
    """The words of an event, with blanks between, - for None."""
    return " ".join(["-" if part is None else str(part) for part in event])
