"""Points 2, 6, 7 and 19: a book of rows, in levels and queues."""

import itertools
import random
import unittest

from anything import alike
from made import SIDES, mirrored, row, some_rows
from ringhall.book import Book
from ringhall.errors import NoOrder
from ringhall.orders import ranked
from ringhall.words import BUY, SELL


def book_of(rows):
    """A book into which the rows are put one by one."""
    book = Book()
    for one in rows:
        book.put(one)
    return book


class BookCase(unittest.TestCase):
    """A case that checks all that a book tells against its rows."""

    def check(self, book, rows):
        told = ranked(rows)
        self.assertTrue(alike(book.rows(), told), (book.rows(), told))
        self.assertIs(type(len(book)), int)
        self.assertEqual(len(book), len(rows))
        for one in rows:
            self.assertTrue(alike(book.row(one[0]), one))
        numbers = [one[0] for one in rows]
        for number in range(-1, max(numbers, default=0) + 3):
            if number not in numbers:
                self.assertIsNone(book.row(number))
        for side in SIDES:
            self.check_side(book, side, [one for one in told if one[2] == side])
        self.assertIs(type(book.sight()), tuple)
        self.assertTrue(alike(book.sight(), (self.sight_of(told, BUY), self.sight_of(told, SELL))))
        self.assertIs(book == book_of(rows), True)
        self.assertIs(book_of(rows[::-1]) == book, True)
        self.assertIs(book != book_of(rows), False)

    def check_side(self, book, side, rows):
        self.assertEqual(book.best(side), rows[0] if rows else None)
        prices = [one[3] for one in rows]
        for price in range(min(prices, default=1) - 1, max(prices, default=1) + 2):
            level = book.level(side, price)
            self.assertTrue(alike(level, [one for one in rows if one[3] == price]))

    def sight_of(self, rows, side):
        told = {}
        for one in rows:
            if one[2] == side:
                told.setdefault(one[3], []).append(one[6])
        return [(price, sum(seen), len(seen)) for price, seen in told.items()]


class Empty(BookCase):
    def test_nothing(self):
        book = Book()
        self.check(book, [])
        self.assertEqual(len(book), 0)
        self.assertEqual(book.rows(), [])
        self.assertEqual(book.sight(), ([], []))
        for side in SIDES:
            self.assertIsNone(book.best(side))
            self.assertEqual(book.level(side, 100), [])
        self.assertIsNone(book.row(0))

    def test_empty_again(self):
        book = book_of([row(1, "ann", BUY, 100, 5), row(2, "bob", SELL, 101, 5)])
        book.take(2)
        book.take(1)
        self.check(book, [])
        book.put(row(1, "ann", BUY, 100, 5))
        self.check(book, [row(1, "ann", BUY, 100, 5)])


ROWS = [
    row(5, "ann", BUY, 100, 40, 3, 10, 4), row(2, "bob", BUY, 99, 5, 1), row(9, "cid", BUY, 100, 7, 8),
    row(4, "ann", SELL, 102, 6, 5, 2), row(0, "bob", SELL, 101, 9, 7), row(1, "dan", SELL, 102, 8, 2),
]


class Put(BookCase):
    def test_tells_nothing(self):
        self.assertIsNone(Book().put(ROWS[0]))

    def test_both_sides_in_any_order(self):
        for rows in itertools.permutations(ROWS):
            book = Book()
            for one in rows:
                book.put(one)
            self.assertEqual(book.rows(), [ROWS[0], ROWS[2], ROWS[1], ROWS[4], ROWS[5], ROWS[3]])
        self.check(book_of(ROWS), ROWS)

    def test_told_after_each(self):
        for rows in (ROWS, ROWS[::-1], [mirrored(one) for one in ROWS]):
            book = Book()
            for many, one in enumerate(rows, 1):
                book.put(one)
                self.check(book, rows[:many])

    def test_ranks_of_one_price_in_any_order(self):
        for side in SIDES:
            for ranks in itertools.permutations((3, 5, 9, 10, 100)):
                rows = [row(number, "ann", side, 100, 5, rank) for number, rank in enumerate(ranks)]
                book = book_of(rows)
                self.assertEqual([one[7] for one in book.level(side, 100)], [3, 5, 9, 10, 100])
                self.assertEqual(book.best(side)[7], 3)

    def test_prices_in_any_order(self):
        for prices in itertools.permutations((1, 9, 10, 100, 1000000)):
            rows = [row(number, "ann", BUY, price, 5) for number, price in enumerate(prices)]
            rows += [row(number, "ann", SELL, price, 5) for number, price in enumerate(prices, 5)]
            book = book_of(rows)
            self.assertEqual([one[3] for one in book.rows()], [1000000, 100, 10, 9, 1, 1, 9, 10, 100, 1000000])
            self.assertEqual([book.best(side)[3] for side in SIDES], [1000000, 1])

    def test_one_price_on_both_sides(self):
        rows = [row(1, "ann", BUY, 100, 5), row(2, "ann", SELL, 100, 7)]
        book = book_of(rows)
        self.check(book, rows)
        self.assertEqual(book.sight(), ([(100, 5, 1)], [(100, 7, 1)]))

    def test_what_is_seen_is_told_not_what_is_left(self):
        rows = [row(1, "ann", BUY, 100, 40, 0, 10), row(2, "bob", BUY, 100, 40, 1, 10, 3), row(3, "cid", BUY, 99, 8)]
        self.assertEqual(book_of(rows).sight(), ([(100, 13, 2), (99, 8, 1)], []))


class Take(BookCase):
    def test_tells_the_row(self):
        for one in ROWS:
            book = book_of(ROWS)
            self.assertTrue(alike(book.take(one[0]), one))
            self.check(book, [other for other in ROWS if other != one])

    def test_in_any_order(self):
        for rows in itertools.permutations(ROWS):
            book = book_of(ROWS)
            for one in rows:
                self.assertEqual(book.take(one[0]), one)
                self.assertIsNone(book.row(one[0]))
            self.assertEqual((len(book), book.rows(), book.sight()), (0, [], ([], [])))

    def test_put_again_at_another_price_rank_or_side(self):
        book = book_of(ROWS)
        rows = list(ROWS)
        for again in (
            row(5, "ann", BUY, 98, 30, 9), row(5, "ann", BUY, 99, 30, 0), row(5, "ann", BUY, 100, 30, 10),
            row(5, "ann", SELL, 102, 30, 4), row(5, "zoe", SELL, 103, 30, 11), row(5, "ann", BUY, 100, 40, 3, 10, 4),
        ):
            book.take(5)
            book.put(again)
            rows = [one for one in rows if one[0] != 5] + [again]
            self.check(book, rows)
        self.assertIs(book == book_of(ROWS), True)

    def test_of_a_number_that_is_not_there(self):
        for number in (3, 6, 10, 100, -1, 10 ** 60 - 1, 1 - 10 ** 60):
            book = book_of(ROWS)
            with self.assertRaises(NoOrder) as caught:
                book.take(number)
            self.assertTrue(alike(caught.exception.number, number))
            self.check(book, ROWS)

    def test_twice(self):
        book = book_of(ROWS)
        book.take(9)
        for _ in range(2):
            with self.assertRaises(NoOrder) as caught:
                book.take(9)
            self.assertEqual(caught.exception.number, 9)
            self.check(book, [one for one in ROWS if one[0] != 9])

    def test_out_of_an_empty_one(self):
        book = Book()
        with self.assertRaises(NoOrder) as caught:
            book.take(0)
        self.assertTrue(alike(caught.exception.number, 0))
        self.check(book, [])


class Made(BookCase):
    def test_rows_put_taken_and_put_again(self):
        for seed in range(40):
            chance = random.Random(seed)
            rows, book, spare = [], Book(), some_rows(chance, 40, apart=False)
            for _ in range(80):
                if rows and (not spare or chance.random() < 0.4):
                    one = chance.choice(rows)
                    self.assertEqual(book.take(one[0]), one)
                    rows.remove(one)
                    if chance.random() < 0.5:
                        spare.append(one[:3] + (chance.randint(90, 110),) + one[4:])
                else:
                    one = spare.pop(chance.randrange(len(spare)))
                    book.put(one)
                    rows.append(one)
                self.check(book, rows)


class Own(BookCase):
    def test_changes_of_told_lists_change_nothing(self):
        book = book_of(ROWS)
        for _ in range(2):
            for told in (
                book.rows(), book.level(BUY, 100), book.level(SELL, 102), book.level(BUY, 1), *book.sight(),
            ):
                told.reverse()
                told.append("x")
                del told[0]
            self.check(book, ROWS)

    def test_a_list_told_stays_as_it_was(self):
        book = book_of(ROWS)
        told = book.rows(), book.level(BUY, 100), book.sight()
        kept = ranked(ROWS), [ROWS[0], ROWS[2]], ([(100, 11, 2), (99, 5, 1)], [(101, 9, 1), (102, 10, 2)])
        self.assertEqual(told, kept)
        book.take(5)
        book.put(row(7, "eve", BUY, 100, 1, 20))
        self.assertEqual(told, kept)

    def test_two_beside_one_another(self):
        first, second = Book(), Book()
        first.put(ROWS[0])
        self.check(second, [])
        second.put(ROWS[3])
        second.put(ROWS[0])
        self.check(first, ROWS[:1])
        first.take(5)
        self.check(first, [])
        self.check(second, [ROWS[0], ROWS[3]])


class Always:
    """Alike to anything that lets it answer."""

    def __eq__(self, other):
        return True


class Alike(BookCase):
    def test_like_rows(self):
        self.assertIs(Book() == Book(), True)
        self.assertIs(Book() != Book(), False)
        for rows in itertools.permutations(ROWS[:4]):
            self.assertIs(book_of(rows) == book_of(ROWS[:4]), True)
            self.assertIs(book_of(rows) != book_of(ROWS[:4]), False)

    def test_whatever_they_went_through(self):
        book = book_of(ROWS)
        for one in ROWS[1:]:
            book.take(one[0])
        self.assertIs(book == book_of(ROWS[:1]), True)
        self.assertIs(book_of(ROWS[:1]) == book, True)

    def test_a_row_more(self):
        for many in range(len(ROWS)):
            self.assertIs(book_of(ROWS) == book_of(ROWS[:many]), False)
            self.assertIs(book_of(ROWS[:many]) == book_of(ROWS), False)
            self.assertIs(book_of(ROWS) != book_of(ROWS[:many]), True)

    def test_unlike_in_one_part(self):
        first = (1, "ann", BUY, 100, 5, 40, 4, 7)
        others = (2, "bob", SELL, 101, 6, 39, 3, 8)
        for at, other in enumerate(others):
            changed = first[:at] + (other,) + first[at + 1:]
            with self.subTest(changed=changed):
                self.assertIs(book_of([first]) == book_of([changed]), False)
                self.assertIs(book_of([first]) != book_of([changed]), True)
        self.assertIs(book_of([first]) == book_of([first[:4] + (None,) + first[5:]]), False)

    def test_alike_to_nothing_of_another_kind(self):
        for book in (Book(), book_of(ROWS)):
            for other in (None, 0, True, "", [], {}, book.rows(), book.sight(), Book, object(), Always()):
                with self.subTest(other=other):
                    self.assertIs(book == other, False)
                    self.assertIs(book != other, True)


class ByName(BookCase):
    def test_arguments(self):
        book = Book()
        book.put(row=ROWS[0])
        self.assertEqual(book.row(number=5), ROWS[0])
        self.assertEqual(book.best(side=BUY), ROWS[0])
        self.assertEqual(book.level(price=100, side=BUY), ROWS[:1])
        self.assertEqual(book.take(number=5), ROWS[0])


class Beside(BookCase):
    def test_prices_better_first(self):
        book = book_of(ROWS)
        self.assertEqual([book.prices(side) for side in SIDES], [[100, 99], [101, 102]])
        book.prices(BUY).clear()
        self.assertEqual(book.prices(BUY), [100, 99])
        self.assertEqual(Book().prices(SELL), [])

    def test_a_row_renewed_in_its_place(self):
        book = book_of(ROWS)
        row_less = row(5, "ann", BUY, 100, 33, 3, 10, 2)
        book.renew(row_less)
        self.check(book, [row_less] + ROWS[1:])

    def test_a_copy_goes_its_own_way(self):
        book = book_of(ROWS)
        other = book.copied()
        self.check(other, ROWS)
        other.take(5)
        other.take(0)
        book.take(2)
        other.put(row(7, "eve", BUY, 100, 5, 50))
        self.check(book, ROWS[:1] + ROWS[2:])
        self.check(other, ROWS[1:4] + ROWS[5:] + [row(7, "eve", BUY, 100, 5, 50)])


if __name__ == "__main__":
    unittest.main()
