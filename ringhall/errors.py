"""The refusals of the hall, each with the field that tells what was refused."""


def owned(told):
    """What is told, with new lists in the place of its lists."""
    # A caller's list goes on changing; what a refusal tells must not change with it.
    if isinstance(told, list):
        return [owned(part) for part in told]
    if isinstance(told, tuple):
        return tuple([owned(part) for part in told])
    return told


class HallError(ValueError):
    """Any refusal."""


class BadThing(HallError):
    """No thing is made of this; word names the first part that is wrong."""

    def __init__(self, word):
        self.word = owned(word)


class BadOrder(HallError):
    """No order is made of this; word names the first part that is wrong."""

    def __init__(self, word):
        self.word = owned(word)


class NoThing(HallError):
    """The hall has no thing of this name."""

    def __init__(self, name):
        self.name = owned(name)


class NoOrder(HallError):
    """No order of this number stands or waits."""

    def __init__(self, number):
        self.number = owned(number)


class Shut(HallError):
    """The thing of this name is shut."""

    def __init__(self, name):
        self.name = owned(name)


class BadPhase(HallError):
    """The word is no phase to turn to, or the one that is."""

    def __init__(self, word):
        self.word = owned(word)


class OverReach(HallError):
    """The order could lead its owner beyond the reach."""

    def __init__(self, owner):
        self.owner = owned(owner)


class NoDeed(HallError):
    """What is told is no deed."""


class Refused(HallError):
    """Of several deeds the one at this place was refused."""

    def __init__(self, place):
        self.place = owned(place)


class NoPicture(HallError):
    """The text is no picture of a hall; line is the number of the first wrong line."""

    def __init__(self, line):
        self.line = owned(line)


class NoText(HallError):
    """The text is no order's; word is the number of the first wrong word."""

    def __init__(self, word):
        self.word = owned(word)


class NoView(HallError):
    """No hall shows this row; word names the first part that is wrong."""

    def __init__(self, word):
        self.word = owned(word)


class NoRow(HallError):
    """The desk knows no such row."""
