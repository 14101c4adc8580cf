"""Point 21: a desk that is told rows and answers each."""

import random
import unittest

from anything import ANYTHING
from madedeeds import some_deeds
from plainhall import PlainHall
from ringhall.desk import Desk
from ringhall.errors import (
    BadOrder, BadPhase, HallError, NoOrder, NoRow, NoText, NoThing, OverReach, Refused, Shut,
)
from ringhall.orders import listed
from ringhall.texts import event_text

MOST = 10 ** 60 - 1

HALL = "hall 60 gold:100:-:rank tin:7:3:share a:1:0:rank"

# Rows behind the hall's, and their answers.
WORKED = [
    ("tell buy 40 gold at 101 show 10 guard less by ann", "taken 0; rests 0 10"),
    ("tell sell 15 gold at 99 life now by bob", "taken 1; trade 0 1 101 10; shown 0 10; trade 0 1 101 5"),
    ("tell buy 3 gold stop 200 life whole by cid", "taken 2; waits 2"),
    ("sight gold", "101 5 1 | -"),
    ("tell sell 4 gold at 102 by bob", "taken 3; rests 3 4"),
    ("tell sell 2 gold at 102 by dan", "taken 4; rests 4 2"),
    ("tell sell 9 gold at 1000000 show 1 by dan", "taken 5; rests 5 1"),
    ("tell buy 1 gold at 100 by dan", "taken 6; rests 6 1"),
    ("sight gold", "101 5 1, 100 1 1 | 102 6 2, 1000000 1 1"),
    ("sight tin", "- | -"),
    ("cost gold buy 5", "5 510"),
    ("cost gold sell 1000000000", "26 2625"),
    ("cost tin buy 1", "0 0"),
    ("cash ann", "-1515"),
    ("cash bob", "1515"),
    ("cash zoe", "0"),
    ("holding ann gold", "15"),
    ("holding bob gold", "-15"),
    ("holding ann tin", "0"),
    ("holding zoe tin", "0"),
    ("last gold", "101"),
    ("last tin", "7"),
    ("phase gold", "open"),
    ("change 0 - 25", "-"),
    ("change 0 - 20", "less 0 5"),
    ("change 0 99 20", "changed 0; rests 0 10"),
    ("change 0 98 -", "changed 0; rests 0 10"),
    ("sweep zoe", "-"),
    ("phase gold call", "phase gold call"),
    ("phase gold", "call"),
    ("tell buy 3 gold at 102 by eve", "taken 7; rests 7 3"),
    ("phase gold open", "phase gold open; opened gold 102 3; trade 7 3 102 3"),
    ("phase tin shut", "phase tin shut"),
    ("phase tin open", "phase tin open; opened tin - 0"),
    ("cancel 4", "off 4 2 cancel"),
    ("sweep dan", "off 5 9 cancel; off 6 1 cancel"),
    ("several cancel 3", "off 3 1 cancel"),
    ("several sweep zoe / sweep dan", "-"),
    (
        "several tell buy 2 a at 1 by ann / change 8 - 1 / phase a call / sweep zoe / cancel 8",
        "taken 8; rests 8 2; less 8 1; phase a call; off 8 1 cancel",
    ),
    ("sight gold", "98 10 1 | -"),
    (
        "picture",
        "reach 60 / thing gold 100 - rank open 102 102 / thing tin 7 3 share open 7 7 / thing a 1 0 rank call 1 1"
        " / next 9 10 / order 0 ann gold buy 98 10 - rest less 20 10 7"
        " / order 2 cid gold buy - - 200 whole old 3 - - / owner ann -1515 gold 15 / owner bob 1821 gold -18"
        " / owner eve -306 gold 3",
    ),
]


def told():
    """A desk that was told the hall and a few orders."""
    desk = Desk()
    for row in (
        HALL, "tell buy 9 gold at 90 show 3 by ann", "tell sell 4 gold at 95 by bob",
        "tell buy 2 gold stop 200 life now by cid", "phase a shut",
    ):
        desk.say(row)
    return desk


class DeskCase(unittest.TestCase):
    def refused(self, desk, row, kind, **fields):
        """Checks that a row is refused, and that the desk stays as it is."""
        try:
            ahead = desk.say("picture")
        except NoRow:
            ahead = None
        with self.assertRaises(HallError) as caught:
            desk.say(row)
        self.assertIs(type(caught.exception), kind, row)
        self.assertEqual(vars(caught.exception), fields, row)
        if ahead is None:
            with self.assertRaises(NoRow):
                desk.say("picture")
        else:
            self.assertEqual(desk.say("picture"), ahead)
        return caught.exception

    def no_rows(self, *rows):
        """Checks that these are no rows, with a hall and without."""
        for row in rows:
            self.refused(told(), row, NoRow)
            self.refused(Desk(), row, NoRow)


class Rows(DeskCase):
    def test_worked(self):
        desk = Desk()
        self.assertEqual(desk.say(HALL), "ok")
        for row, answer in WORKED:
            self.assertEqual(desk.say(row), answer, row)

    def test_by_name(self):
        desk = Desk()
        self.assertEqual(desk.say(row=HALL), "ok")

    def test_answers_are_texts(self):
        desk = Desk()
        for row in [HALL] + [row for row, _ in WORKED]:
            self.assertIs(type(desk.say(row)), str)

    def test_a_shares_thing_and_a_band(self):
        desk = told()
        self.assertEqual(desk.say("tell sell 4 tin at 9 by bob"), "taken 3; rests 3 4")
        self.assertEqual(desk.say("tell sell 4 tin at 9 by dan"), "taken 4; rests 4 4")
        self.assertEqual(desk.say("tell buy 3 tin at 9 by ann"), "taken 5; trade 5 3 9 2; trade 5 4 9 1")
        self.assertEqual(desk.say("tell sell 4 tin at 11 by dan"), "taken 6; rests 6 4")
        told_events = "taken 7; trade 7 3 9 2; trade 7 4 9 3; halt tin; off 7 5 now"
        self.assertEqual(desk.say("tell buy 10 tin life now by ann"), told_events)

    def test_sides_and_none(self):
        desk = Desk()
        desk.say("hall 10 gold:5:-:rank")
        self.assertEqual(desk.say("sight gold"), "- | -")
        desk.say("tell sell 2 gold at 9 by ann")
        self.assertEqual(desk.say("sight gold"), "- | 9 2 1")
        desk.say("tell buy 2 gold at 8 by ann")
        self.assertEqual(desk.say("sight gold"), "8 2 1 | 9 2 1")
        desk.say("cancel 0")
        self.assertEqual(desk.say("sight gold"), "8 2 1 | -")


class TheHall(DeskCase):
    def test_bounds(self):
        for row in (
            "hall 0 a:1:-:rank", f"hall {MOST} a:1:-:rank", "hall 5 abcdefgh:1000000:1000000:share",
            "hall 5 a:1:0:share", "hall 5 hall:1:-:rank", "hall 5 a:1:-:rank b:1:-:rank aa:1:-:rank",
        ):
            self.assertEqual(Desk().say(row), "ok")
            self.assertEqual(told().say(row), "ok")

    def test_none(self):
        self.no_rows(
            "hall", "hall 5", "hall 5 ", "hall a:1:-:rank", "hall x a:1:-:rank", "hall -1 a:1:-:rank",
            "hall 05 a:1:-:rank", "hall 00 a:1:-:rank", f"hall {MOST + 1} a:1:-:rank", "hall - a:1:-:rank",
            "hall 5 a:0:-:rank", "hall 5 a:1000001:-:rank", "hall 5 a:01:-:rank", "hall 5 a:-1:-:rank",
            "hall 5 a:1:1000001:rank", "hall 5 a:1:-1:rank", "hall 5 a:1:00:rank", "hall 5 a:1::rank",
            "hall 5 a:1:None:rank", "hall 5 a:1:-:ranks", "hall 5 a:1:-:", "hall 5 a:1:-", "hall 5 a:1:-:rank:",
            "hall 5 a:1:-:rank:open", "hall 5 :1:-:rank", "hall 5 A:1:-:rank", "hall 5 abcdefghi:1:-:rank",
            "hall 5 a1:1:-:rank", "hall 5 a", "hall 5 a:1:-:rank a:1:-:rank", "hall 5 a:1:-:rank a:2:3:share",
            "hall 5 a:1:-:rank b:1:-:rank a:1:-:rank", "hall 5 a:1:-:rank b", "hall 5 a:1:-:rank 5",
            "Hall 5 a:1:-:rank", "hall 5 a:1:-:rank / b:1:-:rank", "hall 5 a:x:-:rank", "hall 5 a:-:-:rank",
        )

    def test_all_anew(self):
        desk = told()
        self.assertEqual(desk.say("hall 9 gold:5:-:rank"), "ok")
        self.assertEqual(desk.say("picture"), "reach 9 / thing gold 5 - rank open 5 5 / next 0 0")
        self.assertEqual(desk.say("tell buy 5 gold at 9 by ann"), "taken 0; rests 0 5")
        self.refused(desk, "last tin", NoThing, name="tin")
        self.refused(desk, "cancel 1", NoOrder, number=1)

    def test_ahead_of_it(self):
        desk = Desk()
        for row, _ in WORKED:
            self.refused(desk, row, NoRow)
        # Also what writes no order, and what a hall would refuse.
        for row in ("tell x", "several tell x", "cancel 99", "sight lead", "phase lead open", "change 0 0 0"):
            self.refused(desk, row, NoRow)
        self.assertEqual(desk.say(HALL), "ok")

    def test_two_desks(self):
        one, other = Desk(), Desk()
        one.say(HALL)
        self.refused(other, "picture", NoRow)
        other.say(HALL)
        one.say("tell buy 5 gold at 9 by ann")
        self.assertEqual(other.say("tell buy 5 gold at 9 by ann"), "taken 0; rests 0 5")
        self.assertEqual(one.say("picture"), other.say("picture"))


class NoRows(DeskCase):
    def test_of_anything(self):
        self.no_rows(*ANYTHING)
        self.no_rows(b"picture", ["picture"], ("picture",), {}, Desk())

    def test_blanks(self):
        for row, _ in WORKED:
            self.no_rows(" " + row, row + " ", row.replace(" ", "  ", 1) if " " in row else row + "  ")
            if " " in row and not row.startswith(("tell", "several")):
                self.no_rows(row.replace(" ", "\t", 1), row.replace(" ", "\n", 1))

    def test_doubled_blanks_in_an_orders_text(self):
        self.no_rows("tell buy  5 gold at 9 by ann", "tell buy 5  gold at 9 by ann", "tell buy 5 gold at 9 by ann ")
        self.no_rows("tell  buy 5 gold at 9 by ann", "several tell buy 5  gold at 9 by ann / cancel 0")

    def test_other_words(self):
        self.no_rows(
            "", "x", "Tell buy 5 gold at 9 by ann", "tells", "standing gold", "waiting gold", "anchor gold", "len",
            "foretold buy 5 gold at 9 by ann", "buy 5 gold at 9 by ann", "/", "picture /", "ok", "-",
        )

    def test_words_more_and_fewer(self):
        for row in (
            "cancel 0", "sweep ann", "change 0 95 5", "sight gold", "cost gold buy 5", "cash ann", "holding ann gold",
            "last gold", "picture",
        ):
            told().say(row)
            self.no_rows(row + " 5", row + " ann", row + " -")
            if " " in row:
                self.no_rows(row.rpartition(" ")[0])
        self.no_rows("phase", "phase gold call now", "tell", "several", "several picture", "several several cancel 0")

    def test_numbers(self):
        for number in ("x", "-1", "00", "01", "+1", "1.0", "-0", str(MOST + 1), "\u0661", "\u00b2", "True", "None"):
            self.no_rows(f"cancel {number}", f"change {number} 95 5", f"change 0 {number} 5", f"change 0 95 {number}")
            self.no_rows(f"cost gold buy {number}")
        self.no_rows("cancel -", "change - 95 5", "cost gold buy -")

    def test_names(self):
        for name in ("Ann", "abcdefghi", "a1", "-", "5", "ann,", "\u00e4"):
            self.no_rows(
                f"sweep {name}", f"cash {name}", f"holding {name} gold", f"holding ann {name}", f"last {name}",
                f"sight {name}", f"phase {name}", f"phase {name} call", f"cost {name} buy 5",
            )

    def test_sides_and_amounts_of_a_cost(self):
        self.no_rows(
            "cost gold Buy 5", "cost gold bid 5", "cost gold - 5", "cost gold buy 0", "cost gold buy 1000000001",
            f"cost gold buy {MOST}", "cost buy gold 5",
        )
        self.assertEqual(told().say("cost gold buy 1000000000"), "4 380")
        self.assertEqual(told().say("cost gold sell 1"), "1 90")

    def test_several(self):
        self.no_rows(
            "several", "several /", "several / cancel 0", "several cancel 0 /", "several cancel 0 / / cancel 1",
            "several cancel 0 cancel 1", "several cancel 0/ cancel 1", "several cancel 0 /cancel 1",
            "several sight gold", "several phase gold", "several cancel 0 / picture", "several picture / cancel 0",
            "several cancel 0 / x", "several cancel 0 / several cancel 1", "several cancel 0 / hall 5 a:1:-:rank",
            "several cancel 0 / tell", "several tell / cancel 0", "several cancel x / cancel 0",
            "several cancel 0 / sweep Ann", "several change 0 95", "several phase gold call x",
        )


class Texts(DeskCase):
    def test_of_an_order(self):
        desk = told()
        for text, word in (
            ("x", 0), ("buy", 1), ("buy 5", 2), ("buy x gold at 9 by ann", 1), ("buy 5 gold at 9 by ann x", 7),
            ("buy 5 Gold at 9 by ann", 2), ("buy 5 gold at 9 by Ann", 6), ("buy 5 gold by ann", 5),
            ("buy 5 gold at 9 show 6 by ann", 6), ("buy 0 gold at 9 by ann", 1), ("buy 5 gold at 9 / by ann", 5),
            ("/", 0), ("buy\t5 gold at 9 by ann", 0),
        ):
            self.refused(desk, f"tell {text}", NoText, word=word)
            self.assertEqual(type(self.refused(Desk(), f"tell {text}", NoRow)), NoRow)

    def test_of_several_the_first(self):
        desk = told()
        self.refused(desk, "several tell buy 5 gold at x by ann", NoText, word=4)
        self.refused(desk, "several cancel 0 / tell buy 5 gold at x by ann / tell x", NoText, word=4)
        self.refused(desk, "several cancel 0 / tell x / tell buy 5 gold at x by ann", NoText, word=0)
        self.refused(desk, "several tell buy 5 gold at 9 by ann / tell buy 5 gold by ann", NoText, word=5)

    def test_ahead_of_what_the_deeds_refuse(self):
        desk = told()
        self.refused(desk, "several cancel 77 / tell x", NoText, word=0)
        self.refused(desk, "several tell buy 5 lead at 9 by ann / tell buy", NoText, word=1)

    def test_behind_no_row(self):
        desk = told()
        self.refused(desk, "several tell x / x", NoRow)
        self.refused(desk, "several cancel 77 / tell x / cancel", NoRow)


class Refusals(DeskCase):
    def test_as_the_deeds_are(self):
        desk = told()
        for row, kind, fields in (
            ("tell buy 5 lead at 9 by ann", NoThing, {"name": "lead"}),
            ("tell buy 5 a at 9 by ann", Shut, {"name": "a"}),
            ("tell buy 52 gold at 9 by ann", OverReach, {"owner": "ann"}),
            ("cancel 3", NoOrder, {"number": 3}),
            (f"cancel {MOST}", NoOrder, {"number": MOST}),
            ("change 3 95 5", NoOrder, {"number": 3}),
            ("change 0 0 5", BadOrder, {"word": "price"}),
            ("change 0 1000001 0", BadOrder, {"word": "price"}),
            (f"change 0 {MOST} -", BadOrder, {"word": "price"}),
            ("change 0 95 0", BadOrder, {"word": "amount"}),
            ("change 0 - 1000000001", BadOrder, {"word": "amount"}),
            ("change 0 - 61", BadOrder, {"word": "amount"}),
            ("change 0 - -", BadOrder, {"word": "amount"}),
            ("change 1 - 61", OverReach, {"owner": "bob"}),
            ("phase lead open", NoThing, {"name": "lead"}),
            ("phase gold open", BadPhase, {"word": "open"}),
            ("phase gold Open", BadPhase, {"word": "Open"}),
            ("phase gold -", BadPhase, {"word": "-"}),
            ("phase gold /", BadPhase, {"word": "/"}),
            ("phase gold a\tb", BadPhase, {"word": "a\tb"}),
            ("sight lead", NoThing, {"name": "lead"}),
            ("cost lead buy 5", NoThing, {"name": "lead"}),
            ("holding ann lead", NoThing, {"name": "lead"}),
            ("holding zoe lead", NoThing, {"name": "lead"}),
            ("last lead", NoThing, {"name": "lead"}),
            ("phase lead", NoThing, {"name": "lead"}),
        ):
            self.refused(desk, row, kind, **fields)

    def test_of_several(self):
        desk = told()
        why = self.refused(desk, "several cancel 0 / cancel 0", Refused, place=1)
        self.assertIs(type(why.__cause__), NoOrder)
        why = self.refused(desk, "several cancel 77", Refused, place=0)
        self.assertEqual(why.__cause__.number, 77)
        self.refused(desk, "several sweep ann / cancel 1 / change 2 - -", Refused, place=2)
        self.refused(desk, "several phase gold x / sweep ann", Refused, place=0)
        self.refused(desk, "several phase gold /", Refused, place=0)

    def test_it_goes_on_behind_them(self):
        desk = told()
        for row in (None, "x", "tell x", "cancel 77", "several cancel 0 / x", "several cancel 0 / cancel 77", "hall 5"):
            with self.assertRaises(HallError):
                desk.say(row)
        self.assertEqual(desk.say("picture"), told().say("picture"))
        self.assertEqual(desk.say("tell sell 9 gold at 90 by dan"),
                         "taken 3; trade 0 3 90 3; shown 0 3; trade 0 3 90 3; shown 0 3; trade 0 3 90 3")


def row_of(deed):
    """The row that tells a deed, or None where none does."""
    if not isinstance(deed, tuple) or not deed:
        return None
    if deed[0] == "tell" and len(deed) == 2:
        return f"tell {deed[1]}"
    if deed[0] == "change" and len(deed) == 4 and deed[2] != "5":
        return " ".join("-" if part is None else str(part) for part in deed)
    if (deed[0], len(deed)) in (("sweep", 2), ("phase", 3)) and deed[1] is not None:
        return " ".join(deed)
    if deed[0] == "cancel" and len(deed) == 2 and type(deed[1]) is int and deed[1] >= 0:
        return f"cancel {deed[1]}"
    return None


class AgainstPlainLists(DeskCase):
    def test_made_deeds(self):
        for seed in range(60):
            desk = Desk()
            desk.say("hall 90 gold:100:3:rank tin:99:-:share")
            plain = PlainHall([listed("gold", 100, band=3), listed("tin", 99, rule="share")], reach=90)
            for deed in some_deeds(seed, 40):
                row = row_of(deed)
                if row is None:
                    continue
                try:
                    events = plain.do(deed)
                except HallError as why:
                    self.refused(desk, row, type(why), **vars(why))
                    continue
                self.assertEqual(desk.say(row), "; ".join(map(event_text, events)) or "-")
                self.assertEqual(desk.say("picture"), plain.picture().replace("\n", " / "))

    def test_several_at_once(self):
        for seed in range(60):
            chance = random.Random(seed)
            desk = Desk()
            desk.say("hall 90 gold:100:3:rank tin:99:-:share")
            plain = PlainHall([listed("gold", 100, band=3), listed("tin", 99, rule="share")], reach=90)
            deeds = [deed for deed in some_deeds(seed, 40, turns=0.05) if row_of(deed)]
            while deeds:
                many = chance.randint(1, 4)
                row = "several " + " / ".join(map(row_of, deeds[:many]))
                try:
                    events = plain.several(deeds[:many])
                    self.assertEqual(desk.say(row), "; ".join(map(event_text, events)) or "-")
                except Refused as why:
                    self.refused(desk, row, Refused, place=why.place)
                deeds = deeds[many:]


if __name__ == "__main__":
    unittest.main()
