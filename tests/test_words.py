"""The interface: each word's value."""

import unittest

from ringhall import words

VALUES = {
    "BUY": "buy", "SELL": "sell", "RANK": "rank", "SHARE": "share",
    "REST": "rest", "NOW": "now", "WHOLE": "whole", "ONLY": "only",
    "OLD": "old", "NEW": "new", "BOTH": "both", "LESS": "less",
    "OPEN": "open", "CALL": "call", "SHUT": "shut", "REACH": 1000000000000,
}


class Words(unittest.TestCase):
    def test_values(self):
        for name, value in VALUES.items():
            with self.subTest(name=name):
                self.assertIs(type(getattr(words, name)), type(value))
                self.assertEqual(getattr(words, name), value)

    def test_reach_is_a_million_millions(self):
        self.assertEqual(words.REACH, 10 ** 12)


if __name__ == "__main__":
    unittest.main()
