"""Points 8, 9 and 14: a coming order meets a book as by the plain rule, or would."""

import itertools
import random
import time
import unittest

from anything import alike
from made import GUARDS, MOST, RULES, SIDES, cases, next_rank, row, some_band, some_coming, some_rows
from ringhall.book import Book
from ringhall.meet import meet, would
from ringhall.plain import plain_meet
from ringhall.words import BOTH, BUY, LESS, NEW, OLD, RANK, SELL, SHARE


def book_of(rows):
    """A book into which the rows are put one by one."""
    book = Book()
    for one in rows:
        book.put(one)
    return book


def sums_of(events):
    """What the trades among events sum to: (traded, money)."""
    trades = [event for event in events if event[0] == "trade"]
    return sum(trade[4] for trade in trades), sum(trade[3] * trade[4] for trade in trades)


class MeetCase(unittest.TestCase):
    """A case that checks a meeting and what would be traded against the plain rule."""

    def both(self, book, coming, rank, **more):
        rows = book.rows()
        events, behind, left, halted, next_one = plain_meet(rows, coming, rank=rank, **more)
        foretold = would(book, coming, **more)
        self.assertTrue(alike(foretold, sums_of(events)), (rows, coming, more, foretold))
        self.assertTrue(alike(book.rows(), rows))
        answer = meet(book, coming, rank=rank, **more)
        self.assertTrue(alike(answer, (events, left, halted, next_one)), (rows, coming, more, answer))
        self.check_book(book, behind)
        return answer

    def check_book(self, book, rows):
        self.assertTrue(alike(book.rows(), rows), (book.rows(), rows))
        beside = book_of(rows)
        self.assertIs(book == beside, True)
        self.assertEqual(len(book), len(rows))
        self.assertEqual(book.sight(), beside.sight())
        for side in SIDES:
            self.assertEqual(book.best(side), beside.best(side))
        for one in rows:
            self.assertEqual(book.row(one[0]), one)
            self.assertEqual(book.level(one[2], one[3]), beside.level(one[2], one[3]))


SELLS = [row(1, "ann", SELL, 100, 12, shown=5), row(2, "eve", SELL, 100, 7), row(3, "cid", SELL, 102, 9)]


class Worked(MeetCase):
    def test_by_rank(self):
        book = book_of(SELLS)
        events = [
            ("trade", 7, 1, 100, 5), ("shown", 1, 5), ("off", 2, 7, "guard"), ("trade", 7, 1, 100, 5),
            ("shown", 1, 2), ("trade", 7, 1, 100, 2), ("trade", 7, 3, 102, 3),
        ]
        coming = (7, "eve", BUY, None, 15, OLD)
        self.assertEqual(would(book, coming), (15, 1506))
        self.assertIs(book == book_of(SELLS), True)
        self.assertEqual(meet(book, coming, rank=4), (events, 0, False, 6))
        self.assertEqual(book.rows(), [row(3, "cid", SELL, 102, 6)])

    def test_by_share(self):
        book = book_of(SELLS)
        events = [("trade", 7, 1, 100, 3), ("trade", 7, 2, 100, 3)]
        coming = (7, "bob", BUY, 100, 6, OLD)
        self.assertEqual(would(book, coming, rule=SHARE), (6, 600))
        self.assertEqual(meet(book, coming, rank=4, rule=SHARE), (events, 0, False, 4))
        behind = [row(1, "ann", SELL, 100, 9, 1, 5, 2), row(2, "eve", SELL, 100, 4), SELLS[2]]
        self.assertEqual(book.rows(), behind)

    def test_halts(self):
        book = book_of(SELLS)
        coming = (7, "eve", BUY, None, 15, LESS)
        events = [
            ("trade", 7, 1, 100, 5), ("shown", 1, 5), ("less", 2, 7, 7), ("trade", 7, 1, 100, 3),
        ]
        self.assertEqual(would(book, coming, band=1, anchor=99), (8, 800))
        self.assertEqual(meet(book, coming, rank=4, band=1, anchor=99), (events, 0, False, 5))
        book = book_of(SELLS)
        self.assertEqual(would(book, coming[:4] + (20, OLD), band=1, anchor=101), (20, 2016))
        self.assertEqual(would(book, coming[:4] + (20, OLD), band=1, anchor=99), (12, 1200))
        self.assertEqual(meet(book, coming[:4] + (20, OLD), rank=4, band=1, anchor=99)[1:], (8, True, 6))
        self.assertEqual(book.rows(), SELLS[2:])
        self.assertEqual(would(book, coming, band=1, anchor=100), (0, 0))
        self.assertEqual(meet(book, coming, rank=6, band=1, anchor=100), ([], 15, True, 6))
        self.assertEqual(book.rows(), SELLS[2:])

    def test_an_empty_book(self):
        for rule in RULES:
            book = Book()
            for side in SIDES:
                coming = (7, "eve", side, None, 15, OLD)
                self.assertTrue(alike(would(book, coming, rule=rule, band=0, anchor=1), (0, 0)))
                self.assertTrue(alike(meet(book, coming, rank=0, rule=rule, band=0, anchor=1), ([], 15, False, 0)))
            self.assertEqual(len(book), 0)

    def test_no_price_let_by(self):
        rows = [row(4, "dan", BUY, 99, 4)] + SELLS
        for rule in RULES:
            book = book_of(rows)
            for coming in ((7, "eve", BUY, 99, 15, BOTH), (7, "dan", SELL, 100, 15, BOTH)):
                self.assertEqual(would(book, coming, rule=rule, band=0, anchor=1), (0, 0))
                self.assertEqual(meet(book, coming, rank=5, rule=rule, band=0, anchor=1), ([], 15, False, 5))
            self.assertEqual(book.rows(), rows)

    def test_what_the_guards_take_is_not_traded(self):
        rows = [row(1, "ann", SELL, 100, 5), row(2, "eve", SELL, 100, 3), row(3, "bob", SELL, 102, 9)]
        for rule, told in (
            (RANK, {OLD: (10, 1010), NEW: (5, 500), BOTH: (5, 500), LESS: (7, 704)}),
            (SHARE, {OLD: (10, 1010), NEW: (0, 0), BOTH: (0, 0), LESS: (7, 704)}),
        ):
            for guard in GUARDS:
                with self.subTest(rule=rule, guard=guard):
                    book = book_of(rows)
                    coming = (7, "eve", BUY, None, 10, guard)
                    self.assertEqual(would(book, coming, rule=rule), told[guard])
                    self.both(book, coming, 4, rule=rule)

    def test_rank_is_the_usual_rule_and_there_is_no_usual_band(self):
        coming = (7, "bob", BUY, None, 6, OLD)
        answer = meet(book_of(SELLS), coming, rank=4)
        self.assertEqual(answer, meet(book_of(SELLS), coming, rank=4, rule=RANK, band=None, anchor=1))
        self.assertEqual(answer[0], [("trade", 7, 1, 100, 5), ("shown", 1, 5), ("trade", 7, 2, 100, 1)])

    def test_the_most(self):
        rows = [row(number, "ann", SELL, 1000000, MOST, shown=MOST // 20) for number in range(3)]
        for rule in RULES:
            book = book_of(rows)
            self.both(book, (7, "eve", BUY, None, MOST, OLD), 3, rule=rule)
            self.assertEqual(would(book, (8, "eve", BUY, None, MOST, OLD), rule=rule), (MOST, MOST * 1000000))
            self.both(book, (8, "eve", BUY, 1000000, MOST, OLD), 90, rule=rule, band=0, anchor=1000000)


class AgainstThePlainRule(MeetCase):
    def test_many_made(self):
        kinds = {}
        for rows, coming, more in cases(11, 2500):
            answer = self.both(book_of(rows), coming, more.pop("rank"), **more)
            for event in answer[0]:
                kinds[event[0]] = kinds.get(event[0], 0) + 1
            kinds["halt"] = kinds.get("halt", 0) + answer[2]
        for kind in ("trade", "shown", "off", "less", "halt"):
            self.assertGreater(kinds[kind], 50)

    def test_sides_that_meet_and_the_most(self):
        for rows, coming, more in cases(12, 400, apart=False, most=MOST):
            rank = more.pop("rank")
            self.both(book_of(rows), coming[:4] + (MOST, coming[5]), rank, **more)

    def test_each_guard_and_rule(self):
        for rows, coming, more in cases(13, 100, most_rows=7, owners=("ann", "eve")):
            rank = more.pop("rank")
            for side, guard, rule in itertools.product(SIDES, GUARDS, RULES):
                made = (coming[0], "eve", side, None, coming[4], guard)
                self.both(book_of(rows), made, rank, **{**more, "rule": rule})

    def test_one_behind_the_other_in_one_book(self):
        for seed in range(60):
            chance = random.Random(seed)
            book = book_of(some_rows(chance, 10))
            rank = next_rank(book.rows())
            for number in range(100, 125):
                coming = (number,) + some_coming(chance, [])[1:]
                band, anchor = some_band(chance)
                told = self.both(book, coming, rank, band=band, anchor=anchor, rule=RULES[seed % 2])
                rank = told[3]
                # What is left stands, as in a hall; a row of some rank may be taken away.
                off = ("off", number) in [event[:2] for event in told[0]]
                if told[1] > 0 and not told[2] and not off and coming[3] is not None:
                    shown = chance.choice([None, -(-told[1] // 3)])
                    book.put(row(number, coming[1], coming[2], coming[3], told[1], rank, shown))
                    rank += 1
                if len(book) > 8:
                    book.take(chance.choice(book.rows())[0])


class Would(MeetCase):
    def test_the_book_stays(self):
        for rows, coming, more in cases(14, 300):
            more.pop("rank")
            book = book_of(rows)
            first = would(book, coming, **more)
            self.check_book(book, book_of(rows).rows())
            self.assertEqual(would(book, coming, **more), first)

    def test_whatever_rank_is_next(self):
        for rows, coming, more in cases(15, 300):
            rank = more.pop("rank")
            told = would(book_of(rows), coming, **more)
            for next_one in (rank, rank + 1, rank + 1000):
                self.assertEqual(told, sums_of(meet(book_of(rows), coming, rank=next_one, **more)[0]))

    def test_kinds(self):
        told = would(book_of(SELLS), (7, "bob", BUY, None, 6, OLD))
        self.assertTrue(alike(told, (6, 600)))


class Told(MeetCase):
    def test_what_is_handed_in_stays(self):
        coming = (7, "bob", BUY, None, 6, OLD)
        rows = list(SELLS)
        book = book_of(rows)
        would(book, coming)
        meet(book, coming, rank=4)
        self.assertEqual((coming, rows), ((7, "bob", BUY, None, 6, OLD), SELLS))

    def test_told_lists_are_the_askers_own(self):
        coming = (7, "bob", BUY, None, 6, OLD)
        book = book_of(SELLS)
        told = meet(book, coming, rank=4)[0]
        rows = book.rows()
        told.clear()
        self.assertEqual(book.rows(), rows)
        self.assertEqual(len(meet(book_of(SELLS), coming, rank=4)[0]), 3)

    def test_a_book_beside_it_stays(self):
        book, beside = book_of(SELLS), book_of(SELLS)
        meet(book, (7, "bob", BUY, None, 600, OLD), rank=4)
        self.check_book(beside, SELLS)
        self.check_book(book, [])

    def test_by_name(self):
        coming = (7, "bob", BUY, None, 6, OLD)
        told = meet(rule=SHARE, anchor=100, coming=coming, rank=4, book=book_of(SELLS), band=3)
        self.assertEqual(told, meet(book_of(SELLS), coming, rank=4, band=3, anchor=100, rule=SHARE))
        told = would(anchor=100, rule=SHARE, coming=coming, book=book_of(SELLS), band=3)
        self.assertEqual(told, (6, 600))

    def test_by_name_alone(self):
        coming = (7, "bob", BUY, None, 6, OLD)
        with self.assertRaises(TypeError):
            meet(book_of(SELLS), coming, 4)
        with self.assertRaises(TypeError):
            meet(book_of(SELLS), coming)
        with self.assertRaises(TypeError):
            would(book_of(SELLS), coming, 4)


class Soon(unittest.TestCase):
    def timed(self, rows, coming, rank, rule):
        book = book_of(rows)
        begun = time.process_time()
        would(book, coming, rule=rule)
        told = meet(book, coming, rank=rank, rule=rule)
        self.assertLess(time.process_time() - begun, 1)
        return told[1:] + (len(book),)

    def test_fourteen_rows_with_shown_parts(self):
        left = MOST // 280 * 20
        rows = [row(number, "ann", SELL, 100, left, shown=left // 20) for number in range(14)]
        for rule in RULES:
            told = self.timed(rows, (20, "eve", BUY, None, MOST, OLD), 20, rule)
            self.assertEqual(told, (MOST - 14 * left, False, 20 + 14 * 19, 0))

    def test_some_hundred_rows(self):
        rows = [row(number, "ann", SELL, 100 + number // 50, 1000, shown=100) for number in range(400)]
        for rule in RULES:
            told = self.timed(rows, (900, "eve", BUY, None, 400010, OLD), 900, rule)
            self.assertEqual(told, (10, False, 900 + 400 * 9, 0))


if __name__ == "__main__":
    unittest.main()
