"""Points 2 and 4: the tuple of a thing, made of anything."""

import itertools
import unittest

from anything import MOST, NAMES, NO_NAMES, WRONG, alike
from ringhall.errors import BadThing
from ringhall.orders import listed
from ringhall.words import RANK, SHARE

GOOD = {"name": "gold", "start": 100, "band": 5, "rule": SHARE}
PARTS = ["name", "start", "band", "rule"]

WRONGS = {
    "name": [None] + WRONG + NO_NAMES,
    "start": [None, 0, 1000001, 1000002, "gold"] + WRONG,
    "band": [1000001, 1000002, "gold"] + WRONG,
    "rule": [None, 0, 1, "", "Rank", "RANK", "ranks", "shar", "rank ", "old", ["rank"], ("rank",)] + WRONG,
}


def word_of(parts):
    """The field of the refusal of a thing of these parts, or None where it is made."""
    try:
        listed(parts["name"], parts["start"], band=parts["band"], rule=parts["rule"])
    except BadThing as refusal:
        return refusal.word
    return None


class Made(unittest.TestCase):
    def check(self, thing, told):
        self.assertTrue(alike(thing, told), thing)

    def test_the_tuple(self):
        self.check(listed("gold", 100, band=5, rule=SHARE), ("gold", 100, 5, "share"))
        self.check(listed("gold", 100, band=5, rule=RANK), ("gold", 100, 5, "rank"))

    def test_band_and_rule_left_out(self):
        self.check(listed("gold", 100), ("gold", 100, None, "rank"))
        self.check(listed("gold", 100, band=7), ("gold", 100, 7, "rank"))
        self.check(listed("gold", 100, rule=SHARE), ("gold", 100, None, "share"))
        self.check(listed("gold", 100, band=None), ("gold", 100, None, "rank"))

    def test_by_name_in_any_order(self):
        told = ("gold", 100, 5, "share")
        self.check(listed("gold", 100, rule=SHARE, band=5), told)
        for order in itertools.permutations(PARTS):
            self.check(listed(**{part: GOOD[part] for part in order}), told)

    def test_band_and_rule_by_name_alone(self):
        self.assertRaises(TypeError, listed, "gold", 100, 5)
        self.assertRaises(TypeError, listed, "gold", 100, 5, SHARE)
        self.assertRaises(TypeError, listed, "gold")
        self.assertRaises(TypeError, listed)

    def test_names(self):
        for name in NAMES:
            self.check(listed(name, 1), (name, 1, None, "rank"))

    def test_bounds_of_the_start(self):
        for start in (1, 2, 999999, 1000000):
            self.check(listed("gold", start), ("gold", start, None, "rank"))

    def test_bounds_of_the_band(self):
        for band in (0, 1, 999999, 1000000):
            self.check(listed("gold", 1, band=band), ("gold", 1, band, "rank"))


class NotMade(unittest.TestCase):
    def test_each_part_wrong(self):
        for part in PARTS:
            for value in WRONGS[part]:
                with self.subTest(part=part, value=value):
                    self.assertEqual(word_of({**GOOD, part: value}), part)

    def test_several_parts_wrong_tell_the_first(self):
        for many in (2, 3, 4):
            for parts in itertools.combinations(PARTS, many):
                for value in (True, False, -1, MOST, "", "A", [], ()):
                    with self.subTest(parts=parts, value=value):
                        self.assertEqual(word_of({**GOOD, **{part: value for part in parts}}), parts[0])

    def test_the_first_part_told_wins_over_all_later_values(self):
        for first, second in itertools.combinations(PARTS, 2):
            for value in WRONGS[second]:
                with self.subTest(first=first, second=second, value=value):
                    self.assertEqual(word_of({**GOOD, first: WRONGS[first][-1], second: value}), first)

    def test_a_truth_is_no_whole_number(self):
        for truth in (True, False):
            self.assertEqual(word_of({**GOOD, "start": truth}), "start")
            self.assertEqual(word_of({**GOOD, "band": truth}), "band")

    def test_wrong_with_band_and_rule_left_out(self):
        with self.assertRaises(BadThing) as caught:
            listed("Gold", 0)
        self.assertEqual(caught.exception.word, "name")
        with self.assertRaises(BadThing) as caught:
            listed("gold", 0)
        self.assertEqual(caught.exception.word, "start")

    def test_what_is_handed_in_stays(self):
        told = ["gold", ["gold"]]
        for part in PARTS:
            self.assertEqual(word_of({**GOOD, part: told}), part)
            self.assertEqual(told, ["gold", ["gold"]])


if __name__ == "__main__":
    unittest.main()
