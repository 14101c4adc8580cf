"""How numbers are written: by at most sixty figures, without a 0 ahead."""

MOST_FIGURES = 60


def number_of(word):
    """The number from 0 on that a word writes, or None."""
    # isdigit alone would let figures beyond 0 to 9 by.
    if not word.isdigit() or not word.isascii() or len(word) > MOST_FIGURES:
        return None
    if word[0] == "0" and word != "0":
        return None
    return int(word)


def whole_of(word):
    """The whole number that a word writes, one below 0 with a - ahead, or None."""
    if not word.startswith("-"):
        return number_of(word)
    number = number_of(word[1:])
    return -number if number else None
