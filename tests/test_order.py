"""Points 2, 5 and 20: orders, made of anything, their likeness and their text."""

import itertools
import types
import unittest

from anything import MOST, NAMES, NO_NAMES, WRONG, alike
from ringhall.errors import BadOrder
from ringhall.orders import Order
from ringhall.words import BOTH, BUY, LESS, NEW, NOW, OLD, ONLY, REST, SELL, WHOLE

PARTS = ["owner", "thing", "side", "amount", "price", "shown", "stop", "life", "guard"]

GOOD = {
    "owner": "ann", "thing": "gold", "side": BUY, "amount": 100, "price": 7,
    "shown": 20, "stop": 9, "life": ONLY, "guard": LESS,
}

NUMBERS = ["gold"] + WRONG
NO_WORDS = [None, 0, 1, "", "Rest", "REST", "rest ", " now", "hold", "res", ["rest"], ("old",)] + WRONG

WRONGS = {
    "owner": [None] + WRONG + NO_NAMES,
    "thing": [None] + WRONG + NO_NAMES,
    "side": NO_WORDS + ["Buy", "BUY", "bu", "buys", "rank", "old", "buysell"],
    "amount": [None, 0, 1000000001, 1000000002] + NUMBERS,
    "price": [0, 1000001, 1000002] + NUMBERS,
    "shown": [0, 1000000001, 1000000002] + NUMBERS,
    "stop": [0, 1000001, 1000002] + NUMBERS,
    "life": NO_WORDS + ["old", "both", "buy", "whol", "cancel"],
    "guard": NO_WORDS + ["rest", "now", "ol", "news", "guard", "none"],
}


def order_of(parts):
    """The order of these parts."""
    given = dict(parts)
    return Order(given.pop("owner"), given.pop("thing"), given.pop("side"), given.pop("amount"), **given)


def word_of(parts):
    """The field of the refusal of an order of these parts, or None where it is made."""
    try:
        order_of(parts)
    except BadOrder as refusal:
        return refusal.word
    return None


def fields_of(order):
    """The nine fields of an order."""
    return [getattr(order, part) for part in PARTS]


class Made(unittest.TestCase):
    def test_fields(self):
        order = order_of(GOOD)
        self.assertTrue(alike(fields_of(order), ["ann", "gold", "buy", 100, 7, 20, 9, "only", "less"]))

    def test_usual_ones_left_out(self):
        order = Order("bob", "tin", SELL, 3, price=4)
        self.assertTrue(alike(fields_of(order), ["bob", "tin", "sell", 3, 4, None, None, "rest", "old"]))
        order = Order("bob", "tin", SELL, 3, life=NOW)
        self.assertTrue(alike(fields_of(order), ["bob", "tin", "sell", 3, None, None, None, "now", "old"]))

    def test_none_told_is_as_left_out(self):
        order = Order("bob", "tin", SELL, 3, price=4, shown=None, stop=None)
        self.assertEqual(order, Order("bob", "tin", SELL, 3, price=4))

    def test_by_name_in_any_order(self):
        for parts in itertools.islice(itertools.permutations(PARTS), 0, None, 997):
            order = Order(**{part: GOOD[part] for part in parts})
            self.assertEqual(fields_of(order), [GOOD[part] for part in PARTS])

    def test_what_stands_behind_the_star_by_name_alone(self):
        self.assertRaises(TypeError, Order, "ann", "gold", BUY, 5, 7)
        self.assertRaises(TypeError, Order, "ann", "gold", BUY, 5, 7, None, None, REST, OLD)
        self.assertRaises(TypeError, Order, "ann", "gold", BUY, price=7)

    def test_names(self):
        for name in NAMES:
            self.assertEqual(order_of({**GOOD, "owner": name}).owner, name)
            self.assertEqual(order_of({**GOOD, "thing": name}).thing, name)
        self.assertIsNone(word_of({**GOOD, "owner": "gold"}))

    def test_sides_lives_and_guards(self):
        for side in (BUY, SELL):
            self.assertEqual(order_of({**GOOD, "side": side}).side, side)
        for life in (REST, NOW, WHOLE, ONLY):
            self.assertEqual(order_of({**GOOD, "shown": None, "life": life}).life, life)
        for guard in (OLD, NEW, BOTH, LESS):
            self.assertEqual(order_of({**GOOD, "guard": guard}).guard, guard)

    def test_bounds(self):
        for number in (1, 2, 999999, 1000000):
            self.assertEqual(order_of({**GOOD, "price": number}).price, number)
            self.assertEqual(order_of({**GOOD, "stop": number}).stop, number)
        for number in (1, 2, 999999999, 1000000000):
            self.assertEqual(order_of({**GOOD, "shown": None, "amount": number}).amount, number)
            self.assertEqual(order_of({**GOOD, "amount": number, "shown": number}).shown, number)

    def test_no_price_with_each_life(self):
        for life, word in ((REST, "price"), (NOW, None), (WHOLE, None), (ONLY, "price")):
            for stop in (None, 5):
                with self.subTest(life=life, stop=stop):
                    parts = {**GOOD, "price": None, "shown": None, "stop": stop, "life": life}
                    self.assertEqual(word_of(parts), word)

    def test_shown_with_each_life(self):
        for life, word in ((REST, None), (NOW, "shown"), (WHOLE, "shown"), (ONLY, None)):
            for price, shown in itertools.product((7, None), (1, 20, 100)):
                due = word if price is not None or life in (NOW, WHOLE) else "price"
                if shown == 1 and due is None:
                    due = "shown"
                with self.subTest(life=life, price=price, shown=shown):
                    self.assertEqual(word_of({**GOOD, "price": price, "shown": shown, "life": life}), due)

    def test_shown_about_a_twentieth(self):
        rows = [
            (1, 1, True), (19, 1, True), (20, 1, True), (21, 1, False), (21, 2, True), (39, 1, False),
            (40, 2, True), (41, 2, False), (41, 3, True), (99, 4, False), (99, 5, True), (100, 4, False),
            (100, 5, True), (100, 6, True), (101, 5, False), (101, 6, True), (119, 5, False),
            (1000000000, 50000000, True), (1000000000, 49999999, False), (999999999, 49999999, False),
            (999999981, 50000000, True), (999999980, 49999999, True),
        ]
        for life in (REST, ONLY):
            for amount, shown, so in rows:
                with self.subTest(amount=amount, shown=shown, life=life):
                    told = word_of({**GOOD, "amount": amount, "shown": shown, "life": life})
                    self.assertEqual(told, None if so else "shown")

    def test_shown_about_the_amount(self):
        for amount, shown, so in (
            (1, 1, True), (1, 2, False), (100, 99, True), (100, 100, True), (100, 101, False),
            (999999999, 999999999, True), (999999999, 1000000000, False), (1, 1000000000, False),
        ):
            with self.subTest(amount=amount, shown=shown):
                told = word_of({**GOOD, "amount": amount, "shown": shown})
                self.assertEqual(told, None if so else "shown")

    def test_what_is_handed_in_stays(self):
        parts = dict(GOOD)
        Order(**parts)
        self.assertEqual(parts, GOOD)
        told = ["ann", ["ann"]]
        for part in PARTS:
            self.assertEqual(word_of({**GOOD, part: told}), part)
            self.assertEqual(told, ["ann", ["ann"]])


class NotMade(unittest.TestCase):
    def test_each_part_wrong(self):
        for part in PARTS:
            for value in WRONGS[part]:
                with self.subTest(part=part, value=value):
                    self.assertEqual(word_of({**GOOD, part: value}), part)

    def test_several_parts_wrong_tell_the_first(self):
        for many in (2, 3):
            for parts in itertools.combinations(PARTS, many):
                for value in (True, False, 0, -1, MOST, "", "A", [], ()):
                    with self.subTest(parts=parts, value=value):
                        self.assertEqual(word_of({**GOOD, **{part: value for part in parts}}), parts[0])

    def test_all_parts_wrong(self):
        for at in range(len(PARTS)):
            wrong = {part: [] for part in PARTS[at:]}
            self.assertEqual(word_of({**GOOD, **wrong}), PARTS[at])

    def test_the_first_wins_whatever_the_second_is(self):
        for first, second in itertools.combinations(PARTS, 2):
            for value in WRONGS[second]:
                with self.subTest(first=first, second=second, value=value):
                    self.assertEqual(word_of({**GOOD, first: WRONGS[first][-1], second: value}), first)

    def test_a_truth_is_no_whole_number(self):
        for part in ("amount", "price", "shown", "stop"):
            for truth in (True, False):
                self.assertEqual(word_of({**GOOD, "amount": 1, "shown": 1, part: truth}), part)

    def test_wrong_parts_go_ahead_of_parts_that_do_not_go_together(self):
        for life in (REST, ONLY):
            lacks = {**GOOD, "price": None, "shown": None, "life": life}
            self.assertEqual(word_of(lacks), "price")
            for part in ("owner", "thing", "side", "amount", "shown", "stop", "guard"):
                with self.subTest(life=life, part=part):
                    self.assertEqual(word_of({**lacks, part: WRONGS[part][-1]}), part)
        self.assertEqual(word_of({**GOOD, "price": None, "life": "hold"}), "life")
        for shown in (4, 101):
            for part in ("owner", "thing", "side", "amount", "price", "stop", "life", "guard"):
                with self.subTest(shown=shown, part=part):
                    self.assertEqual(word_of({**GOOD, "shown": shown, part: WRONGS[part][-1]}), part)

    def test_price_goes_ahead_of_shown(self):
        for life in (REST, ONLY):
            for shown in (1, 4, 101):
                with self.subTest(life=life, shown=shown):
                    self.assertEqual(word_of({**GOOD, "price": None, "shown": shown, "life": life}), "price")
        for life in (NOW, WHOLE):
            for shown in (1, 20, 101):
                with self.subTest(life=life, shown=shown):
                    self.assertEqual(word_of({**GOOD, "price": None, "shown": shown, "life": life}), "shown")

    def test_usual_life_needs_a_price(self):
        with self.assertRaises(BadOrder) as caught:
            Order("ann", "gold", BUY, 5)
        self.assertEqual(caught.exception.word, "price")


class Always:
    """Alike to anything that lets it answer."""

    def __eq__(self, other):
        return True


class Alike(unittest.TestCase):
    def test_like_ones(self):
        self.assertIs(order_of(GOOD) == order_of(GOOD), True)
        self.assertIs(order_of(GOOD) != order_of(GOOD), False)
        one = order_of(GOOD)
        self.assertIs(one == one, True)
        self.assertIs(Order("a", "b", BUY, 1, price=2) == Order("a", "b", BUY, 1, price=2, life=REST, guard=OLD), True)

    def test_unlike_in_one_part(self):
        others = {
            "owner": "bob", "thing": "tin", "side": SELL, "amount": 101, "price": 8,
            "shown": 21, "stop": 10, "life": REST, "guard": OLD,
        }
        for part in PARTS:
            other = order_of({**GOOD, part: others[part]})
            with self.subTest(part=part):
                self.assertIs(order_of(GOOD) == other, False)
                self.assertIs(other == order_of(GOOD), False)
                self.assertIs(order_of(GOOD) != other, True)

    def test_told_and_not_told_are_unlike(self):
        bare = {**GOOD, "shown": None, "life": NOW}
        for part in ("price", "stop"):
            self.assertIs(order_of(bare) == order_of({**bare, part: None}), False)
        self.assertIs(order_of(GOOD) == order_of({**GOOD, "shown": None}), False)

    def test_alike_to_nothing_of_another_kind(self):
        order = order_of(GOOD)
        fields = fields_of(order)
        others = [
            None, 0, True, "", str(order), fields, tuple(fields), dict(GOOD),
            types.SimpleNamespace(**GOOD), object(), Order, Always(),
        ]
        for other in others:
            with self.subTest(other=other):
                self.assertIs(order == other, False)
                self.assertIs(order != other, True)


class Text(unittest.TestCase):
    def check(self, order, text):
        self.assertIs(type(str(order)), str)
        self.assertEqual(str(order), text)

    def test_least_told(self):
        self.check(Order("ann", "gold", BUY, 10, price=5), "buy 10 gold at 5 by ann")
        self.check(Order("bob", "tin", SELL, 1, life=NOW), "sell 1 tin life now by bob")

    def test_all_told(self):
        self.check(order_of(GOOD), "buy 100 gold at 7 show 20 stop 9 life only guard less by ann")

    def test_each_part_told_and_not_told(self):
        options = itertools.product((None, 7), (None, 20), (None, 9), (REST, NOW, WHOLE, ONLY), (OLD, NEW, BOTH, LESS))
        made = 0
        for price, shown, stop, life, guard in options:
            parts = {**GOOD, "price": price, "shown": shown, "stop": stop, "life": life, "guard": guard}
            if word_of(parts) is not None:
                continue
            made += 1
            words = ["buy 100 gold"]
            words += [] if price is None else ["at 7"]
            words += [] if shown is None else ["show 20"]
            words += [] if stop is None else ["stop 9"]
            words += [] if life == "rest" else ["life " + life]
            words += [] if guard == "old" else ["guard " + guard]
            self.check(order_of(parts), " ".join(words + ["by ann"]))
        self.assertEqual(made, 64)

    def test_greatest_numbers(self):
        order = Order("abcdefgh", "zyxwvuts", SELL, 1000000000, price=1000000, shown=50000000, stop=1000000)
        self.check(order, "sell 1000000000 zyxwvuts at 1000000 show 50000000 stop 1000000 by abcdefgh")

    def test_names_like_words(self):
        self.check(Order("by", "buy", SELL, 1, price=1), "sell 1 buy at 1 by by")


if __name__ == "__main__":
    unittest.main()
