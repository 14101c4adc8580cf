"""Points 3 and 18: pictures read back, and what is none."""

import random
import unittest

from anything import ANYTHING, alike
from hallcase import HallCase, buy, hall_of, outcome, parts_of, sell
from madedeeds import some_deeds, some_order, some_things
from pictureoracle import first_wrong, has_noughts
from ringhall.errors import HallError, NoPicture
from ringhall.hall import Hall
from ringhall.orders import listed
from ringhall.pictures import read_picture
from ringhall.words import CALL, OPEN, SHUT

MOST = 10 ** 60 - 1

PICTURE = "\n".join([
    "reach 60",
    "thing gold 100 - rank open 90 100",
    "thing tin 7 3 share call 8 7",
    "thing a 1 0 rank shut 1 1000000",
    "next 12 9",
    "order 0 dan gold buy 90 6 - rest less 37 3 0",
    "order 1 bob tin sell 9 - - only old 5 5 8",
    "order 2 cid gold sell 95 40 80 rest both 13 13 2",
    "order 4 eve gold buy - - 200 now old 5 - -",
    "order 5 eve gold sell 50 3 50 only both 60 - -",
    "order 8 bob a buy 5 - 99 whole new 1 - -",
    "order 10 ann gold sell 96 - 100 rest new 2 2 3",
    "owner a -12 a -3 gold 7",
    "owner bob 270 gold -3",
    "owner gold 0 tin 4",
    "owner zoe -258",
])


class PictureCase(HallCase):
    def refused_at(self, text, line):
        with self.assertRaises(NoPicture) as caught:
            read_picture(text)
        self.assertTrue(alike(caught.exception.line, line), (text, caught.exception.line, line))

    def judged(self, text):
        """Checks what becomes of a text against the patterns, and tells the line that is not so."""
        line = first_wrong(text)
        if line is not None:
            self.refused_at(text, line)
        elif has_noughts(text):
            try:
                self.assertIs(type(read_picture(text)), Hall)
            except NoPicture:
                pass
        else:
            self.assertEqual(read_picture(text).picture(), text)
        return line

    def wrong(self, text, line):
        """Checks a text that is wrong in this line."""
        self.assertEqual(self.judged(text), line, text)


def told(lines, at, line):
    """The lines with another one in this place."""
    return "\n".join(lines[:at] + [line] + lines[at + 1:])


class ReadBack(PictureCase):
    def test_a_worked_one(self):
        hall = read_picture(PICTURE)
        self.assertIs(type(hall), Hall)
        self.assertEqual(hall.picture(), PICTURE)
        self.assertEqual(read_picture(text=PICTURE).picture(), PICTURE)
        self.assertEqual(len(hall), 7)
        self.assertEqual([hall.phase_of(name) for name in ("gold", "tin", "a")], [OPEN, CALL, SHUT])
        self.assertEqual([hall.last(name) for name in ("gold", "tin", "a")], [90, 8, 1])
        self.assertEqual([hall.anchor(name) for name in ("gold", "tin", "a")], [100, 7, 1000000])
        self.assertEqual((hall.waiting("gold"), hall.waiting("a"), hall.waiting("tin")), ([4, 5], [8], []))
        self.assertEqual(hall.standing("gold"), [
            (0, "dan", "buy", 90, 6, 37, 3, 0), (2, "cid", "sell", 95, 40, 13, 13, 2),
            (10, "ann", "sell", 96, None, 2, 2, 3),
        ])
        self.assertEqual([hall.cash(owner) for owner in ("a", "bob", "gold", "zoe")], [-12, 270, 0, -258])
        self.assertEqual((hall.holding("a", "a"), hall.holding("gold", "tin"), hall.holding("a", "tin")), (-3, 4, 0))

    def test_it_goes_on(self):
        hall = read_picture(PICTURE)
        self.tells(hall.tell(sell("ann", 5, 90)), [
            ("taken", 12), ("trade", 0, 12, 90, 3), ("shown", 0, 6), ("trade", 0, 12, 90, 2),
        ])
        self.tells(hall.cancel(5), [("off", 5, 60, "cancel")])
        self.tells(hall.phase("tin", OPEN), [("phase", "tin", OPEN), ("opened", "tin", None, 0)])
        self.tells(hall.tell(buy("eve", 1, 1, "tin")), [("taken", 13), ("rests", 13, 1)])
        self.assertEqual(hall.standing("tin")[0][7], 10)
        self.tells(hall.sweep("bob"), [("off", 1, 5, "cancel"), ("off", 8, 1, "cancel")])

    def test_its_reach(self):
        hall = read_picture(PICTURE)
        # a has 7 of gold already, 3 less than none of a; eve's 60 wait.
        with self.assertRaises(HallError):
            hall.tell(buy("a", 54, 50))
        self.tells(hall.foretold(buy("a", 53, 50)), [("taken", 12), ("rests", 12, 53)])
        with self.assertRaises(HallError):
            hall.tell(sell("eve", 1, 200))

    def test_nothing_yet(self):
        for reach in (0, 1, 10 ** 12, MOST):
            hall = Hall([listed("gold", 1)], reach=reach)
            self.assertIs(read_picture(hall.picture()) == hall, True)

    def test_two_from_one_text(self):
        one, other = read_picture(PICTURE), read_picture(PICTURE)
        self.assertIs(one == other, True)
        one.cancel(0)
        self.assertIs(one == other, False)
        self.assertEqual(other.picture(), PICTURE)

    def test_made_halls_go_on_alike(self):
        for seed in range(120):
            chance = random.Random(seed)
            things = some_things(chance)
            hall = Hall(things, reach=chance.choice([10 ** 12, 60]))
            deeds = some_deeds(seed + 300, 45)
            for deed in deeds[:chance.randint(0, 40)]:
                outcome(hall, deed)
            picture = hall.picture()
            back = read_picture(picture)
            self.assertIs(back == hall, True)
            self.assertEqual(back.picture(), picture)
            self.assertEqual(parts_of(back, ("gold", "tin")), parts_of(hall, ("gold", "tin")))
            self.assertIsNone(first_wrong(picture))
            for deed in deeds[-20:]:
                order = some_order(chance)
                self.assertTrue(alike(self.foretold(back, order), self.foretold(hall, order)))
                self.assertTrue(alike(self.several(back, [deed, deed]), self.several(hall, [deed, deed])))
                self.assertTrue(alike(outcome(back, deed), outcome(hall, deed)))
                self.assertEqual(back.picture(), hall.picture())

    def foretold(self, hall, order):
        try:
            return hall.foretold(order)
        except HallError as why:
            return type(why).__name__, vars(why)

    def several(self, hall, deeds):
        try:
            return hall.several(deeds)
        except HallError as why:
            return type(why).__name__, vars(why)

    def test_read_back_behind_each_deed(self):
        for seed in range(25):
            things = some_things(random.Random(seed))
            hall, back = Hall(things), Hall(things)
            for deed in some_deeds(seed + 900, 40):
                back = read_picture(back.picture())
                self.assertTrue(alike(outcome(back, deed), outcome(hall, deed)))
                self.assertEqual(back.picture(), hall.picture())

    def test_numbers_of_sixty_figures(self):
        text = PICTURE.replace("next 12 9", f"next {MOST} {MOST}")
        text = text.replace("owner zoe -258", f"owner zoe -{MOST} a {MOST}")
        hall = read_picture(text)
        self.assertEqual(hall.picture(), text)
        self.assertEqual((hall.cash("zoe"), hall.holding("zoe", "a")), (-MOST, MOST))
        self.tells(hall.tell(buy("ann", 1, 1)), [("taken", MOST), ("rests", MOST, 1)])
        number = MOST - 1
        text = text.replace("order 10 ann gold sell 96 - 100 rest new 2 2 3",
                            f"order {number} ann gold sell 96 - 100 rest new 2 2 {number}")
        self.assertEqual(read_picture(text).picture(), text)


class NoText(PictureCase):
    def test_of_anything(self):
        for other in ANYTHING + [b"reach 5", PICTURE.split("\n"), tuple(PICTURE.split("\n"))]:
            self.refused_at(other, 0)

    def test_empty(self):
        self.wrong("", 0)
        self.wrong("\n", 0)
        self.wrong(" ", 0)


class Lines(PictureCase):
    LINES = PICTURE.split("\n")

    def test_only_the_first_lines(self):
        for many in range(1, len(self.LINES)):
            text = "\n".join(self.LINES[:many])
            if many <= 4:
                self.wrong(text, many)
            else:
                self.judged(text)
            self.wrong(text + "\n", many)

    def test_a_line_left_out(self):
        for at in range(len(self.LINES)):
            line = self.judged("\n".join(self.LINES[:at] + self.LINES[at + 1:]))
            # Without a thing the first of its orders or owners is wrong, without the rest what follows at once.
            self.assertEqual(line, {0: 0, 1: 4, 2: 5, 3: 9, 4: 4}.get(at))

    def test_a_line_twice(self):
        for at, line in enumerate(self.LINES):
            self.wrong("\n".join(self.LINES[:at + 1] + [line] + self.LINES[at + 1:]), at + 1)
            self.assertIsNotNone(self.judged("\n".join(self.LINES + [line])))
            self.assertIsNotNone(self.judged("\n".join([line] + self.LINES)))

    def test_lines_exchanged(self):
        for at in range(len(self.LINES) - 1):
            lines = list(self.LINES)
            lines[at], lines[at + 1] = lines[at + 1], lines[at]
            line = self.judged("\n".join(lines))
            if at in (1, 2):
                # The things' own order is free.
                self.assertIsNone(line)
            else:
                self.assertEqual(line, {0: 0, 3: 4, 4: 4, 11: 12}.get(at, at + 1))

    def test_a_line_put_in_elsewhere(self):
        for at, line in enumerate(self.LINES):
            for place in range(len(self.LINES)):
                lines = self.LINES[:at] + self.LINES[at + 1:]
                lines.insert(place, line)
                self.judged("\n".join(lines))

    def test_a_line_more(self):
        for more in ("", " ", "reach 60", "next 12 9", "thing b 1 - rank open 1 1", "x", "end", "owner", "owner zz"):
            self.wrong(PICTURE + "\n" + more, len(self.LINES))
            for at in range(len(self.LINES)):
                self.judged("\n".join(self.LINES[:at] + [more] + self.LINES[at:]))

    def test_blanks(self):
        for at, line in enumerate(self.LINES):
            words = line.split(" ")
            for other in (" " + line, line + " ", line.replace(" ", "  ", 1), line.replace(" ", "\t", 1), "\t" + line):
                self.wrong(told(self.LINES, at, other), at)
            for k in range(1, len(words)):
                other = " ".join(words[:k]) + "  " + " ".join(words[k:])
                self.wrong(told(self.LINES, at, other), at)

    def test_words_more_and_fewer(self):
        for at, line in enumerate(self.LINES):
            words = line.split(" ")
            for k in range(len(words)):
                fewer = " ".join(words[:k] + words[k + 1:])
                # An owner's line without its thing, or without its cash, may tell another.
                self.wrong(told(self.LINES, at, fewer), at)
                for more in ("-", "0", "1", "x", words[k]):
                    other = " ".join(words[:k] + [more] + words[k:])
                    self.wrong(told(self.LINES, at, other), at)
            self.wrong(told(self.LINES, at, line + " 1"), at)

    def test_words_exchanged(self):
        for at, line in enumerate(self.LINES):
            words = line.split(" ")
            for k in range(len(words) - 1):
                other = words[:k] + [words[k + 1], words[k]] + words[k + 2:]
                self.judged(told(self.LINES, at, " ".join(other)))

    def test_each_word_otherwise(self):
        others = [
            "", "-", "0", "1", "00", "01", "-0", "-1", "+1", "1.0", "x", "X", "ann", "Ann", "abcdefgh", "abcdefghi",
            "a1", "gold", "tin", "lead", "rank", "share", "Rank", "open", "call", "shut", "buy", "sell", "Buy", "rest",
            "now", "whole", "only", "old", "new", "both", "less", "1000000", "1000001", "1000000000", "1000000001",
            str(MOST), str(MOST + 1), "-" + str(MOST), "-" + str(MOST + 1), "--1", "1-", "1_0", "\t1", "2\n", "None",
            "2", "3", "6", "9", "12", "13", "61", "\u0661", "\u00b2", "\uff11",
        ]
        for at, line in enumerate(self.LINES):
            words = line.split(" ")
            for k, word in enumerate(words):
                for other in others + [word + "0", "0" + word, "-" + word, "+" + word, word[:-1], word.upper()]:
                    if other != word:
                        self.judged(told(self.LINES, at, " ".join(words[:k] + [other] + words[k + 1:])))

    def test_two_lines_wrong(self):
        for at in range(len(self.LINES)):
            for behind in range(at + 1, len(self.LINES)):
                lines = list(self.LINES)
                lines[at] += " x"
                lines[behind] = "x"
                self.wrong("\n".join(lines), at)

    def test_two_lines_out_of_their_row(self):
        lines = list(self.LINES)
        lines[6] = lines[6].replace("order 1 ", "order 0 ")
        lines[11] = lines[11].replace(" 2 2 3", " 2 2 2")
        lines[13] = lines[13].replace("owner bob", "owner a")
        for at in (6, 11, 13):
            self.wrong("\n".join(lines), at)
            lines[at] = self.LINES[at]
        self.assertIsNone(self.judged("\n".join(lines)))

    def test_made_pictures_with_a_word_otherwise(self):
        words = "- 0 1 2 5 90 95 105 gold tin ann zoe buy sell rest now only".split(" ")
        for seed in range(60):
            chance = random.Random(seed)
            hall = Hall(some_things(chance))
            for deed in some_deeds(seed + 77, 40):
                outcome(hall, deed)
            lines = hall.picture().split("\n")
            for _ in range(40):
                at = chance.randrange(len(lines))
                parts = lines[at].split(" ")
                others = words + chance.choice(lines).split(" ")
                parts[chance.randrange(len(parts))] = chance.choice(others)
                self.judged(told(lines, at, " ".join(parts)))


class Bounds(PictureCase):
    """Each bound of the document, at it and beyond it by one."""

    HEAD = ["reach 60", "thing gold 100 - rank open 100 100", "thing tin 100 - rank open 100 100", "next 9 9"]

    def so(self, *lines, head=None):
        text = "\n".join((head or self.HEAD) + list(lines))
        self.assertIsNone(first_wrong(text), text)
        self.assertEqual(read_picture(text).picture(), text)

    def wrong_line(self, *lines, head=None, at=None):
        head = head or self.HEAD
        text = "\n".join(head + list(lines))
        self.wrong(text, len(head) + len(lines) - 1 if at is None else at)

    def test_reach(self):
        for reach in ("0", "1", str(MOST)):
            self.so(head=[f"reach {reach}"] + self.HEAD[1:])
        for reach in ("-1", "-0", "00", "-", "", "x", "+1", str(MOST + 1)):
            self.wrong_line(head=[f"reach {reach}"] + self.HEAD[1:], at=0)

    def test_things(self):
        for line in (
            "thing a 1 0 share shut 1000000 1", "thing abcdefgh 1000000 1000000 rank call 1 1000000",
            "thing order 5 - rank open 5 5",
        ):
            self.so(head=[self.HEAD[0], line, self.HEAD[3]])
        for line in (
            "thing gold 0 - rank open 100 100", "thing gold 1000001 - rank open 100 100",
            "thing gold 100 -1 rank open 100 100", "thing gold 100 1000001 rank open 100 100",
            "thing gold 100 - ranks open 100 100", "thing gold 100 - - open 100 100",
            "thing gold 100 - rank closed 100 100", "thing gold 100 - rank - 100 100",
            "thing gold 100 - rank open 0 100", "thing gold 100 - rank open 1000001 100",
            "thing gold 100 - rank open 100 0", "thing gold 100 - rank open 100 1000001",
            "thing gold - - rank open 100 100", "thing gold 100 - rank open - 100", "thing gold 100 - rank open 100 -",
            "thing goldgolds 100 - rank open 100 100", "thing Gold 100 - rank open 100 100",
            "thing - 100 - rank open 100 100", "thing  100 - rank open 100 100",
        ):
            self.wrong_line(head=[self.HEAD[0], line, self.HEAD[3]], at=1)

    def test_a_name_twice(self):
        other = "thing gold 5 3 share shut 7 8"
        self.wrong_line(head=self.HEAD[:2] + [other, self.HEAD[3]], at=2)
        self.wrong_line(head=self.HEAD[:3] + [other, self.HEAD[3]], at=3)

    def test_no_thing(self):
        self.wrong_line(head=["reach 60", "next 0 0"], at=1)
        self.wrong_line(head=["reach 60"], at=1)
        self.wrong_line(head=["next 0 0"], at=0)
        self.wrong_line(head=self.HEAD[1:], at=0)

    def test_next(self):
        for line in ("next 0 0", f"next {MOST} {MOST}"):
            self.so(head=self.HEAD[:3] + [line])
        for line in (
            "next -1 0", "next 0 -1", "next - 0", "next 0 -", f"next {MOST + 1} 0", f"next 0 {MOST + 1}", "next 0",
            "next 0 0 0", "next",
        ):
            self.wrong_line(head=self.HEAD[:3] + [line], at=3)

    def test_numbers_and_ranks(self):
        order = "order {} ann gold buy 90 - - rest old 5 5 {}"
        self.so(order.format(0, 0))
        self.so(order.format(8, 8))
        self.wrong_line(order.format(9, 8))
        self.wrong_line(order.format(8, 9))
        self.wrong_line(order.format(-1, 8))
        self.wrong_line(order.format(8, -1))
        self.wrong_line(order.format("-", 8))
        self.wrong_line(order.format(MOST, 8))
        self.so(order.format(0, 5), order.format(1, 0), order.format(5, 8))
        self.wrong_line(order.format(0, 5), order.format(0, 0))
        self.wrong_line(order.format(2, 5), order.format(1, 0))
        self.wrong_line(order.format(0, 5), order.format(1, 5))
        # A rank is of the whole hall.
        self.wrong_line(order.format(0, 5), order.format(1, 5).replace("gold buy", "tin sell"))
        # By number, not by text.
        head = self.HEAD[:3] + ["next 20 20"]
        self.so(order.format(9, 5), order.format(10, 6), head=head)
        self.wrong_line(order.format(10, 5), order.format(9, 6), head=head)

    def test_owner_and_thing(self):
        order = "order 0 {} {} buy 90 - - rest old 5 5 0"
        self.so(order.format("gold", "gold"))
        self.so(order.format("abcdefgh", "tin"))
        for owner in ("abcdefghi", "Ann", "-", "a1", ""):
            self.wrong_line(order.format(owner, "gold"))
        for thing in ("lead", "Gold", "-", "", "ann"):
            self.wrong_line(order.format("ann", thing))

    def test_price_and_life(self):
        waits = "order 0 ann gold buy {} - 105 {} old 5 - -"
        for life in ("rest", "only", "now", "whole"):
            for price in ("1", "90", "1000000"):
                self.so(waits.format(price, life))
            for price in ("0", "1000001", "-1", "090"):
                self.wrong_line(waits.format(price, life))
        for life in ("now", "whole"):
            self.so(waits.format("-", life))
        for life in ("rest", "only"):
            self.wrong_line(waits.format("-", life))
        for life in ("-", "Rest", "", "old"):
            self.wrong_line(waits.format("90", life))

    def test_shown_and_life(self):
        waits = "order 0 ann gold buy 90 {} 105 {} old {} - -"
        for life in ("rest", "only"):
            for shown, left in ((1, 1), (1, 20), (2, 40), (2, 21), (50, 1), (1000000000, 1), (50000000, 1000000000)):
                self.so(waits.format(shown, life, left))
            for shown, left in ((1, 21), (2, 41), (0, 1), (1000000001, 5), (49999999, 1000000000), (-5, 1)):
                self.wrong_line(waits.format(shown, life, left))
        for life in ("now", "whole"):
            self.so(waits.format("-", life, 500))
            self.wrong_line(waits.format(500, life, 500))

    def test_left(self):
        for line in ("order 0 ann gold buy 90 - 105 rest old {} - -", "order 0 ann gold buy 90 - 105 rest old {} 1 0"):
            for left in (1, 1000000000):
                self.so(line.format(left))
            for left in (0, 1000000001, -1, "-", "", "x"):
                self.wrong_line(line.format(left))

    def test_stop(self):
        for line in ("order 0 ann gold buy 90 - {} rest old 5 - -", "order 0 ann gold buy 90 - {} rest old 5 5 0"):
            for stop in (1, 1000000):
                self.so(line.format(stop))
            for stop in (0, 1000001, -1, "", "x"):
                self.wrong_line(line.format(stop))
        self.so("order 0 ann gold buy 90 - - rest old 5 5 0")
        self.wrong_line("order 0 ann gold buy 90 - - rest old 5 - -")

    def test_side_and_guard(self):
        for side in ("buy", "sell"):
            for guard in ("old", "new", "both", "less"):
                self.so(f"order 0 ann gold {side} 90 - - rest {guard} 5 5 0")
        for side in ("-", "Buy", "", "bid", "old"):
            self.wrong_line(f"order 0 ann gold {side} 90 - - rest old 5 5 0")
            self.wrong_line(f"order 0 ann gold buy 90 - - rest {side.replace('old', 'rest')} 5 5 0")

    def test_seen(self):
        order = "order 0 ann gold buy 90 {} - rest old {} {} 0"
        most = 1000000000
        for shown, left, seen in ((6, 37, 1), (6, 37, 6), (6, 3, 3), (6, 3, 1), ("-", 5, 5), (most, most, most)):
            self.so(order.format(shown, left, seen))
        for shown, left, seen in (
            (6, 37, 0), (6, 37, 7), (6, 3, 4), ("-", 5, 6), ("-", 5, 0), (6, 37, -1), (6, 37, ""), (6, 37, most + 1),
        ):
            self.wrong_line(order.format(shown, left, seen))

    def test_seen_and_rank(self):
        self.wrong_line("order 0 ann gold buy 90 - 105 rest old 5 5 -")
        self.wrong_line("order 0 ann gold buy 90 - 105 rest old 5 - 0")
        self.wrong_line("order 0 ann gold buy 90 - - rest old 5 - 0")

    def test_lives_that_stand(self):
        for life in ("rest", "only"):
            self.so(f"order 0 ann gold buy 90 - - {life} old 5 5 0")
            self.so(f"order 0 ann gold buy 90 - 105 {life} old 5 5 0")
        for life in ("now", "whole"):
            self.wrong_line(f"order 0 ann gold buy 90 - - {life} old 5 5 0")
            self.wrong_line(f"order 0 ann gold buy 90 - 105 {life} old 5 5 0")
            self.wrong_line(f"order 0 ann gold buy - - - {life} old 5 5 0")

    def test_owners(self):
        self.so("owner a 1", "owner ab -1", "owner b 0 gold -1 tin 5", "owner zzzzzzzz 5 tin 9")
        self.so(f"owner a {MOST} gold -{MOST} tin {MOST}")
        for line in (
            "owner a", "owner", "owner a -", "owner a 01", "owner a -0", "owner a +1", "owner a -01", "owner A 1",
            "owner abcdefghi 1", "owner a 1 gold", "owner a 1 gold 2 tin", "owner a 1 lead 2", "owner a 1 gold -",
            "owner a 1 gold 01", "owner a 1 gold 2 gold 2", "owner a 1 tin 2 gold 2", "owner a 1 gold 2 2",
            f"owner a {MOST + 1}", f"owner a -{MOST + 1}", f"owner a 1 gold {MOST + 1}", "owner a 1 2 gold",
            "owner a gold 2", "owner - 1", "owner  1", "owner a 1 ", "owner a 1  gold 2", "owner a 1 Gold 2",
        ):
            self.wrong_line(line)
            self.wrong_line(line, "x", at=4)

    def test_owners_by_name(self):
        self.wrong_line("owner b 1", "owner a -1")
        self.wrong_line("owner b 1", "owner b -1")
        self.wrong_line("owner ab 1", "owner a -1")
        self.so("owner a 1", "owner aa -1", "owner b 1", "owner order 5")

    def test_noughts_may_be_read_or_refused(self):
        for line in ("owner a 0", "owner a 1 gold 0", "owner a 0 gold 0", "owner a 1 gold 0 tin 5"):
            text = "\n".join(self.HEAD + [line])
            self.assertIsNone(self.judged(text))
            # The program refuses it, as its picture would be another one.
            self.refused_at(text, 4)
            self.refused_at(text + "\nowner b 1", 4)
            # What is not so by itself goes ahead, wherever it stands.
            self.wrong_line(line, "x")

    def test_what_no_hall_tells_by_sums_reach_or_prices(self):
        self.so("owner a 1")
        self.so("owner a 1 gold 61", "owner b 1 gold 61")
        self.so("order 0 ann gold buy 90 - - rest old 61 61 0")
        self.so("order 0 ann gold buy 90 - - rest old 5 5 0", "order 1 bob gold sell 80 - - rest old 5 5 1")


if __name__ == "__main__":
    unittest.main()
