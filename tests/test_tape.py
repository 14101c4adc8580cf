"""Point 17: the tape, and the judge of anybody's tape."""

import random
import unittest

from anything import ANYTHING, alike
from hallcase import HallCase, buy, sell, tape_of
from madedeeds import some_deeds, some_things
from plainhall import PlainHall
from ringhall.hall import Hall
from ringhall.orders import listed
from ringhall.tape import judged
from ringhall.words import CALL, OPEN, SHUT
from test_hall_several import NO_DEEDS

THINGS = [listed("gold", 100), listed("tin", 100, band=3, rule="share")]

DEEDS = [
    ("tell", sell("bob", 5, 100, shown=1)), ("tell", buy("ann", 9, 101)), ("sweep", "zoe"), ("cancel", 77),
    ("change", 1, None, 3), ("change", 1, None, 3), ("nosuch",), ("phase", "tin", CALL),
    ("tell", buy("cid", 2, stop=99, life="now", thing="tin")), ("phase", "tin", OPEN), ("cancel", 1),
    ("phase", "gold", SHUT), ("tell", buy("ann", 1, 1)),
]

TAPE = [
    [("taken", 0), ("rests", 0, 1)],
    [
        ("taken", 1), ("trade", 1, 0, 100, 1), ("shown", 0, 1), ("trade", 1, 0, 100, 1), ("shown", 0, 1),
        ("trade", 1, 0, 100, 1), ("shown", 0, 1), ("trade", 1, 0, 100, 1), ("shown", 0, 1), ("trade", 1, 0, 100, 1),
        ("rests", 1, 4),
    ],
    [],
    [("none",)],
    [("less", 1, 1)],
    [],
    [("none",)],
    [("phase", "tin", "call")],
    [("taken", 2), ("waits", 2)],
    [("phase", "tin", "open"), ("opened", "tin", None, 0), ("woken", 2), ("off", 2, 2, "now")],
    [("off", 1, 3, "cancel")],
    [("phase", "gold", "shut")],
    [("none",)],
]


def copied(tape):
    """The tape with lists of its own."""
    return [list(events) for events in tape]


def others(part):
    """Parts that are not this one."""
    told = [None, True, False, "", "x", [], (), -1]
    if part is None:
        return ["-", 0, False, "None", ()]
    if isinstance(part, str):
        return told + [part + " ", part.upper(), part[:-1], [part], (part,), 0]
    return told + [part + 1, part - 1, str(part), [part], (part,)]


class Judged(HallCase):
    def check(self, tape, told, deeds=None, things=THINGS, **more):
        deeds = DEEDS if deeds is None else deeds
        answer = judged(things, deeds, tape, **more)
        self.assertTrue(alike(answer, told), (answer, told))

    def test_the_one(self):
        self.check(TAPE, None)
        self.assertIsNone(judged(tape=TAPE, deeds=DEEDS, things=THINGS))
        self.check([], None, deeds=[])

    def test_each_event_otherwise(self):
        for k, events in enumerate(TAPE):
            for j, event in enumerate(events):
                for at, part in enumerate(event):
                    for other in others(part):
                        tape = copied(TAPE)
                        tape[k][j] = event[:at] + (other,) + event[at + 1:]
                        self.check(tape, (k, j))
                for other in ANYTHING + [list(event), event + (None,), event + (0,), event[:-1], (event,), event[::-1]]:
                    if other != event:
                        tape = copied(TAPE)
                        tape[k][j] = other
                        self.check(tape, (k, j))

    def test_one_alike_but_in_kinds(self):
        deeds = [("tell", buy("ann", 1, 1)), ("tell", buy("ann", 1, 1))]
        deeds += [("phase", "gold", CALL), ("phase", "gold", OPEN)]
        tape = tape_of(Hall(THINGS), deeds)
        self.assertEqual(tape[1], [("taken", 1), ("rests", 1, 1)])
        self.check(tape, None, deeds=deeds)
        for k, j, event in (
            (0, 0, ("taken", False)), (0, 1, ("rests", False, 1)), (0, 1, ("rests", 0, True)), (1, 0, ("taken", True)),
            (1, 1, ("rests", True, 1)), (1, 1, ("rests", 1, True)), (3, 1, ("opened", "gold", None, False)),
            (1, 0, ["taken", 1]), (1, 1, ["rests", 1, 1]),
        ):
            told = copied(tape)
            self.assertEqual(list(told[k][j]), list(event))
            told[k][j] = event
            self.check(told, (k, j), deeds=deeds)

    def test_each_event_left_out(self):
        for k, events in enumerate(TAPE):
            for j in range(len(events)):
                tape = copied(TAPE)
                del tape[k][j]
                first = j
                # Where the next one is alike, the one that lacks is behind it.
                while first + 1 < len(events) and events[first + 1] == events[first]:
                    first += 1
                self.check(tape, (k, first))

    def test_each_event_twice(self):
        for k, events in enumerate(TAPE):
            for j in range(len(events)):
                tape = copied(TAPE)
                tape[k].insert(j, events[j])
                self.check(tape, (k, j + 1))

    def test_one_event_more(self):
        for k, events in enumerate(TAPE):
            for more in (("none",), None, ("taken", 0), []):
                self.check(copied(TAPE[:k]) + [events + [more]] + copied(TAPE[k + 1:]), (k, len(events)))

    def test_events_exchanged(self):
        for k, events in enumerate(TAPE):
            for j in range(len(events) - 1):
                tape = copied(TAPE)
                tape[k][j], tape[k][j + 1] = tape[k][j + 1], tape[k][j]
                self.check(tape, (k, j) if events[j] != events[j + 1] else None)

    def test_cut_lists(self):
        for k, events in enumerate(TAPE):
            for j in range(len(events)):
                tape = copied(TAPE)
                tape[k] = tape[k][:j]
                self.check(tape, (k, j))

    def test_lists_that_lack(self):
        for many in range(len(TAPE)):
            self.check(TAPE[:many], (many, 0))

    def test_lists_too_many(self):
        for more in ([], [("none",)], [("taken", 3)], None, "", ()):
            self.check(TAPE + [more], (len(TAPE), 0))
            self.check(TAPE + [more, []], (len(TAPE), 0))
        self.check([[]], (0, 0), deeds=[])

    def test_a_list_left_out_or_twice(self):
        for k in range(len(TAPE)):
            tape = TAPE[:k] + TAPE[k + 1:]
            self.check(tape, self.first(tape))
            tape = TAPE[:k] + [TAPE[k]] + TAPE[k:]
            self.check(tape, self.first(tape))

    def first(self, tape):
        """The first wrong place of a tape of lists."""
        for k in range(max(len(tape), len(TAPE))):
            if k >= len(tape) or k >= len(TAPE):
                return k, 0
            if tape[k] != TAPE[k]:
                j = 0
                while j < len(tape[k]) and j < len(TAPE[k]) and tape[k][j] == TAPE[k][j]:
                    j += 1
                return k, j
        return None

    def test_lists_exchanged(self):
        for k in range(len(TAPE) - 1):
            tape = TAPE[:k] + [TAPE[k + 1], TAPE[k]] + TAPE[k + 2:]
            self.check(tape, self.first(tape))

    def test_lists_that_are_none(self):
        for k, events in enumerate(TAPE):
            for other in ANYTHING + [tuple(events), str(events), {}]:
                if not isinstance(other, list):
                    self.check(TAPE[:k] + [other] + TAPE[k + 1:], (k, 0))

    def test_a_tape_that_is_none(self):
        for other in ANYTHING + [tuple(TAPE), {}]:
            if not isinstance(other, list):
                self.check(other, (0, 0))
                self.check(other, (0, 0), deeds=[])

    def test_the_first_of_several(self):
        tape = copied(TAPE)
        tape[9][2] = None
        tape[1][10] = None
        tape[1][4] = ("shown", 0, True)
        tape[12] = None
        self.check(tape, (1, 4))
        tape[0] = ()
        self.check(tape, (0, 0))

    def test_refused_and_no_deeds(self):
        deeds = NO_DEEDS + [
            ("cancel", 0), ("tell", buy("ann", 6, 90)), ("tell", buy("ann", 5, 90, "lead")), ("phase", "gold", OPEN),
            ("change", 3, 4, 5),
        ]
        tape = [[("none",)] for _ in deeds]
        self.check(tape, None, deeds=deeds, reach=5)
        for k in range(len(deeds)):
            for other in ([], [("none",), ("none",)], [("none", None)], [["none"]], [()], ["none"], [None]):
                j = 1 if other[:1] == [("none",)] else 0
                self.check(tape[:k] + [other] + tape[k + 1:], (k, j), deeds=deeds, reach=5)

    def test_a_refused_one_changes_nothing(self):
        deeds = [("tell", buy("ann", 5, 90)), ("tell", buy("ann", 1, 90)), ("tell", buy("bob", 1, 90))]
        tape = [[("taken", 0), ("rests", 0, 5)], [("none",)], [("taken", 1), ("rests", 1, 1)]]
        self.check(tape, None, deeds=deeds, reach=5)
        self.check(tape, (1, 0), deeds=deeds, reach=6)
        self.check(tape, (1, 0), deeds=deeds)
        self.check(tape, (0, 0), deeds=deeds, reach=4)

    def test_things(self):
        self.check(TAPE, (7, 0), things=THINGS[:1])
        self.check(TAPE, (0, 0), things=THINGS[1:])
        self.check(TAPE, None, things=THINGS[::-1])

    def test_what_is_handed_in_stays(self):
        things, deeds, tape = list(THINGS), list(DEEDS), copied(TAPE)
        judged(things, deeds, tape)
        self.assertEqual((things, deeds, tape), (THINGS, DEEDS, TAPE))
        self.check(TAPE, None)

    def test_made_tapes(self):
        for seed in range(60):
            chance = random.Random(seed)
            things = some_things(chance)
            deeds = some_deeds(seed, 40)
            tape = tape_of(PlainHall(things, reach=70), deeds)
            self.check(tape, None, deeds=deeds, things=things, reach=70)
            for _ in range(10):
                told = copied(tape)
                k = chance.randrange(len(told))
                if not told[k]:
                    told[k].append(("none",))
                    self.check(told, (k, 0), deeds=deeds, things=things, reach=70)
                    continue
                j = chance.randrange(len(told[k]))
                at = chance.randrange(len(told[k][j]))
                event = told[k][j]
                told[k][j] = event[:at] + (chance.choice(others(event[at])),) + event[at + 1:]
                self.check(told, (k, j), deeds=deeds, things=things, reach=70)


if __name__ == "__main__":
    unittest.main()
