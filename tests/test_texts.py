"""Point 20: orders read from their texts, and the texts of events."""

import itertools
import random
import unittest

from anything import ANYTHING, alike
from madedeeds import some_order
from ringhall.errors import BadOrder, NoText
from ringhall.orders import Order
from ringhall.texts import event_text, read_order
from ringhall.words import BUY, LESS, NOW, ONLY, SELL, WHOLE

MOST = 10 ** 60 - 1

FULL = "buy 40 gold at 101 show 10 stop 99 life only guard less by ann"


class TextCase(unittest.TestCase):
    def refused_at(self, text, word):
        with self.assertRaises(NoText) as caught:
            read_order(text)
        self.assertTrue(alike(caught.exception.word, word), (text, caught.exception.word, word))

    def read(self, text, order):
        told = read_order(text)
        self.assertIs(type(told), Order)
        self.assertEqual(told, order)
        self.assertEqual(str(told), text)
        for part in ("amount", "price", "shown", "stop"):
            self.assertIn(type(getattr(told, part)), (int, type(None)))


class Read(TextCase):
    def test_worked(self):
        self.read("sell 5 tin at 9 by bob", Order("bob", "tin", SELL, 5, price=9))
        self.read("buy 5 tin life now by bob", Order("bob", "tin", BUY, 5, life=NOW))
        self.read(FULL, Order("ann", "gold", BUY, 40, price=101, shown=10, stop=99, life=ONLY, guard=LESS))
        self.read("buy 1000000000 a at 1000000 show 50000000 stop 1 by abcdefgh",
                  Order("abcdefgh", "a", BUY, 1000000000, price=1000000, shown=50000000, stop=1))
        self.assertEqual(read_order(text="sell 5 tin at 9 by bob"), Order("bob", "tin", SELL, 5, price=9))

    def test_each_of_all_parts(self):
        many = 0
        for side, price, shown, stop, life, guard in itertools.product(
            ("buy", "sell"), (None, 7), (None, 3), (None, 8), ("rest", "now", "whole", "only"),
            ("old", "new", "both", "less"),
        ):
            try:
                order = Order("ann", "gold", side, 5, price=price, shown=shown, stop=stop, life=life, guard=guard)
            except BadOrder:
                continue
            self.read(str(order), order)
            many += 1
        self.assertEqual(many, 2 * 2 * 4 * (2 * 2 + 2 * 2))

    def test_made_ones(self):
        chance = random.Random(20)
        for _ in range(500):
            order = some_order(chance)
            self.read(str(order), order)

    def test_names_that_are_words(self):
        for name in ("at", "by", "show", "stop", "life", "guard", "buy", "rest", "now"):
            self.read(f"buy 5 {name} at 9 by {name}", Order(name, name, BUY, 5, price=9))
            self.read(f"buy 5 {name} life now by {name}", Order(name, name, BUY, 5, life=NOW))

    def test_two_of_one_text(self):
        one, other = read_order(FULL), read_order(FULL)
        self.assertIsNot(one, other)
        one.amount = 5
        self.assertEqual(other.amount, 40)
        self.assertEqual(read_order(FULL).amount, 40)


class Refused(TextCase):
    def test_no_text(self):
        for other in ANYTHING + [Order("ann", "gold", BUY, 5, price=9), b"buy", FULL.split(" "), {}]:
            if not isinstance(other, str):
                self.refused_at(other, 0)

    def test_texts_of_anything(self):
        for other in ANYTHING:
            if isinstance(other, str):
                self.refused_at(other, 1 if other in ("buy", "sell") else 0)

    def test_one_word_lacks(self):
        words = FULL.split(" ")
        for many in range(1, len(words)):
            self.refused_at(" ".join(words[:many]), many)
        self.refused_at("", 0)

    def test_words_behind(self):
        for more in ("x", "by", "by bob", "at 5", "life now", "5", ""):
            self.refused_at(FULL + " " + more, 15)
            self.refused_at("buy 5 gold at 9 by ann " + more, 7)

    def test_blanks(self):
        text = "buy 5 gold at 9 by ann"
        self.refused_at(" " + text, 0)
        self.refused_at(text + " ", 7)
        for many, word in ((1, 1), (3, 3), (4, 4), (5, 5)):
            words = text.split(" ")
            self.refused_at(" ".join(words[:many]) + "  " + " ".join(words[many:]), word)
        for many in (2, 6):
            with self.assertRaises(NoText):
                read_order(" ".join(words[:many]) + "  " + " ".join(words[many:]))
        self.refused_at("buy\t5 gold at 9 by ann", 0)
        self.refused_at("buy 5\tgold at 9 by ann", 1)
        self.refused_at("buy 5 gold at 9\nby ann", 4)
        self.refused_at("buy 5 gold\tat 9 by ann", 3)
        self.refused_at("buy 5 gold at 9 by ann\n", 6)

    def test_each_word_left_out(self):
        for at, word in enumerate([0, 1, 3, 3, 4, 5, 6, 7, 8, 9, 10, 11, 12, 13, 14]):
            words = FULL.split(" ")
            del words[at]
            self.refused_at(" ".join(words), word)

    def test_each_word_told_twice(self):
        words = FULL.split(" ")
        # The amount told twice stands where the thing does, which may be any word; then gold is not so.
        for at, word in enumerate([1, 3, 3, 4, 5, 6, 7, 8, 9, 10, 11, 12, 13, 15, 15]):
            self.refused_at(" ".join(words[:at + 1] + words[at:]), word)

    def test_words_put_in(self):
        words = FULL.split(" ")
        for at in range(len(words) + 1):
            text = " ".join(words[:at] + ["x"] + words[at:])
            # As the thing, or as the owner, it is a name; then what follows is not so.
            self.refused_at(text, {2: 3, 14: 15}.get(at, at))

    def test_words_exchanged(self):
        words = FULL.split(" ")
        for at, word in enumerate([0, 1, 3, 3, 4, 5, 6, 7, 8, 9, 10, 11, 12, 13]):
            told = words[:at] + [words[at + 1], words[at]] + words[at + 2:]
            self.refused_at(" ".join(told), word)

    def test_the_side(self):
        for side in ("Buy", "bought", "bid", "", "b", "5", "gold", "-"):
            self.refused_at(f"{side} 5 gold at 9 by ann", 0)

    def test_numbers_by_their_kind(self):
        for number in ("x", "", "-", "05", "00", "-5", "+5", "5.0", "1e3", "5x", "1_0", "0x5", str(MOST + 1), "\u0665",
                       "\u00b2", "\uff15", "-0", "None"):
            self.refused_at(f"buy {number} gold at 9 show 5 stop 9 by ann", 1)
            self.refused_at(f"buy 5 gold at {number} show 5 stop 9 by ann", 4)
            self.refused_at(f"buy 5 gold at 9 show {number} stop 9 by ann", 6)
            self.refused_at(f"buy 5 gold at 9 show 5 stop {number} by ann", 8)

    def test_sixty_figures_are_a_number_and_one_more_is_none(self):
        # Of the first the order's refusal tells; of the second it is told ahead of a wrong word behind it.
        for number in (MOST, 10 ** 59):
            self.refused_at(f"buy {number} gold at 9 x ann", 5)
            self.refused_at(f"buy {number} gold at 9 by ann", 1)
            self.refused_at(f"buy 5 gold at {number} x ann", 5)
            self.refused_at(f"buy 5 gold at {number} by ann", 4)
        for number in (MOST + 1, 10 ** 60, 10 ** 90):
            self.refused_at(f"buy {number} gold at 9 x ann", 1)
            self.refused_at(f"buy 5 gold at {number} x ann", 4)

    def test_a_nought_is_a_number(self):
        self.refused_at("buy 0 gold at 9 x ann", 5)
        self.refused_at("buy 0 gold at 9 by ann", 1)

    def test_life_and_guard(self):
        for life in ("rest", "Now", "old", "", "x"):
            self.refused_at(f"buy 5 gold at 9 life {life} by ann", 6)
        for guard in ("old", "New", "rest", "", "x"):
            self.refused_at(f"buy 5 gold at 9 guard {guard} by ann", 6)
        self.refused_at("buy 5 gold at 9 life only guard old by ann", 8)
        self.refused_at("buy 5 gold at 9 life rest guard less by ann", 6)

    def test_told_again(self):
        self.refused_at("buy 5 gold at 9 at 9 by ann", 5)
        self.refused_at("buy 5 gold at 9 show 2 show 2 by ann", 7)
        self.refused_at("buy 5 gold at 9 stop 2 stop 2 by ann", 7)
        self.refused_at("buy 5 gold life now life now by ann", 5)
        self.refused_at("buy 5 gold at 9 guard new guard new by ann", 7)
        self.refused_at("buy 5 gold at 9 by ann by ann", 7)

    def test_another_order(self):
        parts = ["at 9", "show 2", "stop 5", "life only", "guard new"]
        for told in itertools.permutations(parts):
            at = 0
            while at < 4 and parts.index(told[at]) < parts.index(told[at + 1]):
                at += 1
            text = f"buy 5 gold {' '.join(told)} by ann"
            if at == 4:
                self.assertEqual(str(read_order(text)), text)
            else:
                self.refused_at(text, 3 + 2 * (at + 1))

    def test_what_the_order_refuses(self):
        for text, word in (
            ("buy 5 gold at 9 by Ann", 6), ("buy 5 gold at 9 by abcdefghi", 6), ("buy 5 gold at 9 by a1", 6),
            ("buy 5 gold at 9 by -", 6),
            ("buy 5 Gold at 9 by ann", 2), ("buy 5 goldgolds at 9 by ann", 2), ("buy 5 - at 9 by ann", 2),
            ("buy 0 gold at 9 by ann", 1), ("buy 1000000001 gold at 9 by ann", 1),
            ("buy 5 gold at 0 by ann", 4), ("buy 5 gold at 1000001 by ann", 4),
            ("buy 5 gold at 9 show 0 by ann", 6), ("buy 5 gold at 9 show 1000000001 by ann", 6),
            ("buy 5 gold at 9 show 6 by ann", 6), ("buy 21 gold at 9 show 1 by ann", 6),
            ("buy 5 gold at 9 show 5 life now by ann", 6), ("buy 5 gold show 5 life whole by ann", 4),
            ("buy 5 gold at 9 stop 0 by ann", 6), ("buy 5 gold at 9 stop 1000001 by ann", 6),
            # No price, and so no word of it.
            ("buy 5 gold by ann", 5), ("buy 5 gold life only by ann", 7), ("buy 5 gold show 9 by ann", 7),
            ("buy 5 gold stop 9 guard less by ann", 9),
        ):
            self.refused_at(text, word)

    def test_the_first_that_the_order_refuses(self):
        self.refused_at("buy 0 Gold at 0 show 0 stop 0 by Ann", 10)
        self.refused_at("buy 0 Gold at 0 show 0 stop 0 by ann", 2)
        self.refused_at("buy 0 gold at 0 show 0 stop 0 by ann", 1)
        self.refused_at("buy 5 gold at 0 show 0 stop 0 by ann", 4)
        self.refused_at("buy 5 gold at 9 show 0 stop 0 by ann", 6)
        self.refused_at("buy 5 gold at 9 show 6 stop 0 by ann", 8)
        self.refused_at("buy 5 gold at 9 show 6 stop 9 by ann", 6)

    def test_a_word_by_its_kind_goes_ahead_of_what_the_order_refuses(self):
        self.refused_at("buy 0 Gold at 0 show 0 stop x by Ann", 8)
        self.refused_at("buy 0 Gold at 0 life rest by Ann", 6)
        self.refused_at("buy 0 Gold at 0 by Ann x", 7)
        self.refused_at("buy 0 Gold at 0", 5)

    def test_what_it_came_from(self):
        with self.assertRaises(NoText) as caught:
            read_order("buy 5 Gold at 9 by ann")
        self.assertIs(type(caught.exception.__cause__), BadOrder)


class Events(unittest.TestCase):
    def test_each_kind(self):
        for event, text in (
            (("taken", 0), "taken 0"),
            (("waits", 12), "waits 12"),
            (("rests", 3, 40), "rests 3 40"),
            (("woken", 3), "woken 3"),
            (("trade", 3, 12, 1000000, 1000000000), "trade 3 12 1000000 1000000000"),
            (("shown", 3, 5), "shown 3 5"),
            (("off", 3, 5, "guard"), "off 3 5 guard"),
            (("off", 3, 5, "now"), "off 3 5 now"),
            (("off", 3, 5, "whole"), "off 3 5 whole"),
            (("off", 3, 5, "only"), "off 3 5 only"),
            (("off", 3, 5, "cancel"), "off 3 5 cancel"),
            (("less", 3, 12, 5), "less 3 12 5"),
            (("less", 3, 5), "less 3 5"),
            (("changed", 3), "changed 3"),
            (("halt", "gold"), "halt gold"),
            (("phase", "gold", "call"), "phase gold call"),
            (("opened", "gold", 101, 7), "opened gold 101 7"),
            (("opened", "gold", None, 0), "opened gold - 0"),
            (("none",), "none"),
        ):
            self.assertEqual(event_text(event), text)
            self.assertIs(type(event_text(event)), str)
        self.assertEqual(event_text(event=("taken", 10 ** 59)), "taken 1" + "0" * 59)


if __name__ == "__main__":
    unittest.main()
