"""What is a whole number, a name, a price, an amount: asked of anything."""

HIGHEST_PRICE = 1000000
HIGHEST_AMOUNT = 1000000000
WIDEST_BAND = 1000000
LONGEST_NAME = 8


def is_whole(told):
    """Whether it is a whole number."""
    # To Python a truth is an int as well; here it is none.
    return isinstance(told, int) and not isinstance(told, bool)


def is_price(told):
    """Whether it is a price."""
    return is_whole(told) and 1 <= told <= HIGHEST_PRICE


def is_amount(told):
    """Whether it is an amount."""
    return is_whole(told) and 1 <= told <= HIGHEST_AMOUNT


def is_band(told):
    """Whether it is the width of a band."""
    return is_whole(told) and 0 <= told <= WIDEST_BAND


def is_name(told):
    """Whether it is a name, of somebody or of a thing."""
    if not isinstance(told, str) or not 1 <= len(told) <= LONGEST_NAME:
        return False
    # isalpha and islower would let letters beyond a to z by.
    return all(["a" <= sign <= "z" for sign in told])


def word_of(told):
    """The text that a tuple begins with, or None of what is no such tuple."""
    if isinstance(told, tuple) and told and isinstance(told[0], str):
        return told[0]
    return None
