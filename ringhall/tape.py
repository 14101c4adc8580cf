"""A judge of tapes: the lists of events that deeds are said to have brought about."""

from ringhall.errors import HallError
from ringhall.hall import Hall
from ringhall.kinds import is_whole
from ringhall.words import REACH


def judged(things, deeds, tape, *, reach=REACH):
    """None where this is the tape of the deeds, else (k, j): the first wrong place j of the first wrong list k."""
    if not isinstance(tape, list):
        return 0, 0
    hall = Hall(things, reach=reach)
    for k, deed in enumerate(deeds):
        events = events_of(hall, deed)
        if k == len(tape):
            return k, 0
        j = first_other(events, tape[k])
        if j is not None:
            return k, j
    return None if len(tape) == len(deeds) else (len(deeds), 0)


def events_of(hall, deed):
    """The events of a deed, or what the tape tells of one that is refused or is none."""
    try:
        return hall.do(deed)
    except HallError:
        return [("none",)]


def first_other(events, told):
    """The first place where what is told is not alike to the events, or None."""
    if not isinstance(told, list):
        return 0
    for j, event in enumerate(events):
        if j == len(told) or not is_alike(event, told[j]):
            return j
    return None if len(told) == len(events) else len(events)


def is_alike(event, told):
    """Whether what is told is this event, in the kinds of its parts, too."""
    if not isinstance(told, tuple) or len(told) != len(event):
        return False
    return all([is_part_alike(part, other) for part, other in zip(event, told)])


def is_part_alike(part, told):
    """Whether what is told is this part of an event: a text, a whole number or None."""
    if part is None:
        return told is None
    if isinstance(part, str):
        return told == part
    return is_whole(told) and told == part
