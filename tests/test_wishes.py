"""8.1: wished changes from any standing; 8.2: the wishes for one change each."""

import unittest

from ripewaves.books import Book, beneath, beside, day, made_book
from ripewaves.errors import NoLot, NoStanding, TooMany
from ripewaves.even import fewest, shortest
from ripewaves.wishes import (
    best_next, comes_along, dearest, fewest_for, may_come_along, row_for, wish_numbers,
)
from oracle import (
    CHAIN, WIDE, all_lots, all_rows, closed_lots, deep, odd_things, reached, small_books, thrown_books, willing_rows,
)

EMPTY = Book((), ())
LATE = Book((0, 1, 1), ((1, 0),))
OF_A_WISH = (fewest_for, row_for, comes_along, may_come_along)


def sample():
    return small_books()[::3] + thrown_books(81, 30, 5, 3) + thrown_books(82, 10, 6, 4) + [EMPTY, LATE]


def shortest_rows(book, standing, lot):
    """The shortest rows from a standing until all of a wish are there, with what is there then."""
    rows = [(row, end) for row, end in all_rows(book, standing) if set(lot) <= set(end)]
    least = min(len(row) for row, _ in rows)
    return [(row, end) for row, end in rows if len(row) == least]


class Wishes(unittest.TestCase):
    def test_ordinary(self):
        self.assertEqual((fewest_for(LATE, (), (1,)), row_for(LATE, (), (1,))), (2, (0, 1)))
        self.assertEqual((comes_along(LATE, (), (1,)), may_come_along(LATE, (), (1,))), ((0, 1, 2), (0, 1, 2)))
        self.assertEqual((comes_along(LATE, (), (2,)), may_come_along(LATE, (), (2,))), ((2,), (2,)))
        two = Book((0, 1, 0, 1, 2), ((4, 0), (4, 1)))
        # whichever block is first, what lies in both comes
        self.assertEqual((fewest_for(two, (), (0,)), may_come_along(two, (), (0,))), (1, (0, 2)))

    def test_some_rows_bring_more(self):
        # change 3 of block 1 comes along just if block 0 is written ahead
        book = Book((0, 1, 2, 1), ((2, 0), (2, 1), (3, 0)))
        self.assertEqual(row_for(book, (), (2,)), (0, 1, 2))
        self.assertEqual(comes_along(book, (), (2,)), (0, 1, 2))
        self.assertEqual(may_come_along(book, (), (2,)), (0, 1, 2, 3))

    def test_against_all_rows_gone_through(self):
        for book in sample():
            for standing in closed_lots(book):
                for lot in all_lots(len(book.blocks)):
                    best = shortest_rows(book, standing, lot)
                    ends = [set(end) - set(standing) for _, end in best]
                    self.assertEqual(fewest_for(book, standing, lot), len(best[0][0]))
                    self.assertEqual(row_for(book, standing, lot), min(row for row, _ in best))
                    self.assertEqual(comes_along(book, standing, lot), tuple(sorted(set.intersection(*ends))))
                    self.assertEqual(may_come_along(book, standing, lot), tuple(sorted(set.union(*ends))))

    def test_closed_lots_that_no_writes_lead_to_are_among_them(self):
        odd = [(book, lot) for book in sample() for lot in closed_lots(book) if lot not in reached(book)]
        self.assertGreater(len(odd), 20)
        book = Book((0, 0, 1), ((2, 1),))
        self.assertEqual((fewest_for(book, (1,), (2,)), comes_along(book, (1,), (2,))), (1, (2,)))
        self.assertEqual((row_for(book, (1,), (0, 2)), best_next(book, (1,))), ((0, 1), (0, 1)))

    def test_wishes_that_are_there_already(self):
        for book in sample():
            for standing in closed_lots(book):
                for lot in ((), standing, standing[:1]):
                    got = tuple(function(book, standing, lot) for function in OF_A_WISH)
                    self.assertEqual(got, (0, (), (), ()))

    def test_all_wished(self):
        for book in sample() + thrown_books(83, 20, 10, 4):
            whole = tuple(range(len(book.blocks)))
            self.assertEqual(fewest_for(book, (), whole), fewest(book))
            self.assertEqual(row_for(book, (), whole), shortest(book))
            self.assertEqual(comes_along(book, (), whole), whole)
            self.assertEqual(may_come_along(book, (), whole), whole)

    def test_no_standing(self):
        for function in OF_A_WISH:
            for thing in odd_things() + [(1,), (1, 2), (0, 0), (2, 0), (3,), [0], 0, (0, 1, 2, 3)]:
                with self.assertRaises(NoStanding):
                    function(LATE, thing, thing)
                with self.assertRaises(NoStanding):
                    function(WIDE, thing if thing not in ((1,), (1, 2), (3,), (0, 1, 2, 3)) else (99,), (99,))

    def test_no_lot(self):
        for function in OF_A_WISH:
            for thing in odd_things() + [(0, 0), (2, 0), (3,), [0], 0, 1, (0, 1, 2, 3), (0, deep(lambda k: [k], 39))]:
                with self.assertRaises(NoLot):
                    function(LATE, (), thing)
            with self.assertRaises(NoLot):
                function(WIDE, (), (11,))
            with self.assertRaises(NoLot):
                function(EMPTY, (), (0,))

    def test_too_many_standings_from_there(self):
        for function in OF_A_WISH:
            for lot in ((), (0,), (3, 4)):
                with self.assertRaises(TooMany) as caught:
                    function(WIDE, (), lot)
                self.assertEqual(caught.exception.most, 2000)
        self.assertEqual((fewest_for(WIDE, (4,), (3, 4, 5)), row_for(WIDE, (4,), (3, 4, 5))), (2, (3, 5)))
        self.assertEqual(comes_along(WIDE, (4,), (3, 4, 5)), (3, 5))

    def test_great_books(self):
        great = beside(made_book(CHAIN.blocks, CHAIN.needs), Book((0,), ()))
        self.assertEqual((fewest_for(great, (), (199,)), len(row_for(great, (), (199,)))), (200, 200))
        self.assertEqual(comes_along(great, (), (0, 200)), (0, 200))
        self.assertEqual(best_next(great, tuple(range(200))), (3,))


class BestNext(unittest.TestCase):
    def test_against_all_willing_rows(self):
        for book in sample():
            for standing in closed_lots(book):
                rows = willing_rows(book, standing)
                least = min(len(row) for row in rows)
                first = {row[0] for row in rows if len(row) == least and row}
                self.assertEqual(best_next(book, standing), tuple(sorted(first)))

    def test_all_there(self):
        self.assertEqual((best_next(LATE, (0, 1, 2)), best_next(EMPTY, ()), best_next(LATE, ())), ((), (), (0,)))

    def test_no_standing(self):
        for thing in odd_things() + [(1,), (1, 2), (0, 0), (2, 0), (3,), [0], 0]:
            with self.assertRaises(NoStanding):
                best_next(LATE, thing)

    def test_too_many(self):
        with self.assertRaises(TooMany) as caught:
            best_next(WIDE, ())
        self.assertEqual(caught.exception.most, 2000)
        self.assertEqual(best_next(WIDE, (0,)), tuple(range(1, 11)))


class WishNumbers(unittest.TestCase):
    def test_the_wishes_one_by_one(self):
        for book in sample() + thrown_books(84, 20, 9, 4):
            numbers = tuple(fewest_for(book, (), (change,)) for change in range(len(book.blocks)))
            self.assertEqual(wish_numbers(book), numbers)

    def test_dearest(self):
        for book in sample() + thrown_books(85, 20, 9, 4):
            numbers = [fewest_for(book, (), (change,)) for change in range(len(book.blocks))]
            most = [change for change, number in enumerate(numbers) if number == max(numbers)]
            self.assertEqual(dearest(book), tuple(most))

    def test_that_of_the_day_of_the_change_and_what_it_needs(self):
        for book in thrown_books(86, 60, 10, 4):
            for change, number in enumerate(wish_numbers(book)):
                lot = tuple(sorted(beneath(book, change) + (change,)))
                self.assertEqual(number, fewest(day(book, lot)))

    def test_of_a_book_without_changes(self):
        self.assertEqual((wish_numbers(EMPTY), dearest(EMPTY)), ((), ()))

    def test_great_books(self):
        self.assertEqual(wish_numbers(CHAIN), tuple(range(1, 201)))
        self.assertEqual(dearest(CHAIN), (199,))
        self.assertEqual(dearest(Book((0, 1, 0), ())), (0, 1, 2))

    def test_too_many(self):
        for function in (wish_numbers, dearest):
            with self.assertRaises(TooMany) as caught:
                function(WIDE)
            self.assertEqual(caught.exception.most, 2000)
        self.assertEqual(wish_numbers(Book(tuple(range(10)), ())), (1,) * 10)


if __name__ == "__main__":
    unittest.main()
