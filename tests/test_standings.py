"""2.1: standings, what comes, ripe blocks; 2.2: rows of writes."""

import unittest
from math import comb, factorial

from ripewaves.books import Book, beside, filled
from ripewaves.errors import BadRow, NoBlock, NoStanding, TooMany
from ripewaves.standings import comes, is_standing, is_willing, led, many_rows, ripe, standings
from oracle import (
    all_lots, behind, blocks_of, bring, closed, odd_things, reached, small_books, thrown_books, willing_rows,
)

EMPTY = Book((), ())
LATE = Book((0, 1, 1), ((1, 0),))
EVEN = Book((0, 0, 1, 1), ((1, 2), (3, 0)))
WAVED = Book((0, 0, 1), ((1, 2), (2, 0)))
# in block 0 the changes 2, 1, 0 need one another in this row; 3 lies elsewhere
KIN = Book((0, 0, 0, 5), ((1, 0), (2, 1)))


def sample():
    return small_books() + thrown_books(21, 120, 7, 4)


def lone(many):
    """Changes of blocks of their own, without needs."""
    return Book(tuple(range(many)), ())


def chain(many):
    """Each change needs the one ahead, in the other of two blocks: one more standings than changes."""
    return Book(tuple(k % 2 for k in range(many)), tuple((k, k - 1) for k in range(1, many)))


def two_thousand():
    """A book from nothing to all of which just 2000 standings can come."""
    book = lone(4)
    for _ in range(3):
        book = beside(book, chain(4))
    return book


class IsStanding(unittest.TestCase):
    def test_closed_lots(self):
        for lot in ((), (0,), (2,), (0, 2), (0, 1), (0, 1, 2)):
            self.assertIs(is_standing(LATE, lot), True)
        self.assertIs(is_standing(EMPTY, ()), True)

    def test_lots_that_are_not_closed(self):
        for lot in ((1,), (1, 2)):
            self.assertIs(is_standing(LATE, lot), False)
        for lot in ((1,), (2,), (0, 1), (1, 2)):
            self.assertIs(is_standing(WAVED, lot), False)

    def test_a_closed_lot_is_a_standing_though_no_writes_lead_to_it(self):
        self.assertIs(is_standing(KIN, (0, 1)), True)
        self.assertNotIn((0, 1), standings(KIN))

    def test_no_lots(self):
        for thing in odd_things() + [0, 1, [0], (1, 0), (0, 0), (3,), (0, 3), (False,), "()", [()]]:
            self.assertIs(is_standing(LATE, thing), False)
            self.assertIs(is_standing(EMPTY, thing), False)

    def test_as_defined(self):
        for book in sample():
            for lot in all_lots(len(book.blocks)):
                self.assertIs(is_standing(book, lot), closed(book, lot))


class Comes(unittest.TestCase):
    def test_changes_of_a_block_that_need_one_another_come_together(self):
        self.assertEqual(comes(KIN, (), 0), (0, 1, 2))
        self.assertEqual(comes(KIN, (0,), 0), (1, 2))
        self.assertEqual(comes(KIN, (0, 1, 2), 0), ())
        self.assertEqual(comes(KIN, (), 5), (3,))

    def test_what_waits_for_another_block_is_left(self):
        self.assertEqual(comes(LATE, (), 1), (2,))
        self.assertEqual(comes(LATE, (0,), 1), (1, 2))
        self.assertEqual(comes(LATE, (0, 2), 1), (1,))
        self.assertEqual(comes(WAVED, (), 1), ())
        self.assertEqual(comes(EVEN, (), 0), (0,))

    def test_what_needs_it_within_its_block_is_left_too(self):
        book = Book((0, 0, 0, 1), ((0, 3), (1, 0), (2, 1)))
        self.assertEqual(comes(book, (), 0), ())
        self.assertEqual(comes(book, (3,), 0), (0, 1, 2))

    def test_as_defined(self):
        for book in sample():
            for lot in all_lots(len(book.blocks)):
                if closed(book, lot):
                    for block in blocks_of(book):
                        self.assertEqual(comes(book, lot, block), bring(book, lot, block))

    def test_no_standing_ahead_of_no_block(self):
        for thing in odd_things() + [(1,), (1, 2), (3,), 0, [0]]:
            with self.assertRaises(NoStanding):
                comes(LATE, thing, 0)
            with self.assertRaises(NoStanding):
                comes(LATE, thing, 9)
            with self.assertRaises(NoStanding):
                comes(LATE, thing, thing)

    def test_no_block(self):
        for thing in odd_things() + [2, 50, (), (0,)]:
            with self.assertRaises(NoBlock):
                comes(LATE, (), thing)
            with self.assertRaises(NoBlock):
                comes(LATE, (0, 1, 2), thing)
            with self.assertRaises(NoBlock):
                comes(EMPTY, (), thing)
        with self.assertRaises(NoBlock):
            comes(KIN, (), 1)


class Ripe(unittest.TestCase):
    def test_ordinary(self):
        self.assertEqual(ripe(LATE, ()), (0, 1))
        self.assertEqual(ripe(WAVED, ()), (0,))
        self.assertEqual(ripe(WAVED, (0,)), (1,))
        self.assertEqual(ripe(WAVED, (0, 2)), (0,))
        self.assertEqual(ripe(WAVED, (0, 1, 2)), ())
        self.assertEqual(ripe(EMPTY, ()), ())
        self.assertEqual(ripe(Book((9, 3, 30), ()), ()), (3, 9, 30))

    def test_as_defined(self):
        for book in sample():
            for lot in all_lots(len(book.blocks)):
                if closed(book, lot):
                    want = tuple(block for block in blocks_of(book) if bring(book, lot, block))
                    self.assertEqual(ripe(book, lot), want)
                    self.assertEqual(want == (), len(lot) == len(book.blocks))

    def test_no_standing(self):
        for thing in odd_things() + [(1,), (1, 2), (3,), 0, [0]]:
            with self.assertRaises(NoStanding):
                ripe(LATE, thing)
        with self.assertRaises(NoStanding):
            ripe(EMPTY, (0,))


class Led(unittest.TestCase):
    def test_the_first_one_and_that_behind_each_write(self):
        self.assertEqual(led(LATE, (), (1, 0, 1)), [(), (2,), (0, 2), (0, 1, 2)])
        self.assertEqual(led(LATE, (), (0, 1)), [(), (0,), (0, 1, 2)])
        self.assertEqual(led(LATE, (2,), (0,)), [(2,), (0, 2)])
        self.assertEqual(led(LATE, (2,), ()), [(2,)])
        self.assertEqual(led(EMPTY, (), ()), [()])

    def test_writes_in_vain_are_let(self):
        self.assertEqual(led(WAVED, (), (1, 0, 0, 1)), [(), (), (0,), (0,), (0, 2)])
        self.assertEqual(led(LATE, (0, 1, 2), (1,)), [(0, 1, 2), (0, 1, 2)])
        self.assertEqual(led(LATE, (), (0,) * 19000), [()] + [(0,)] * 19000)

    def test_as_defined(self):
        for book in sample():
            blocks = blocks_of(book)
            row = tuple(blocks[k * k % len(blocks)] for k in range(5)) if blocks else ()
            want = [()]
            for block in row:
                want.append(behind(book, want[-1], block))
            self.assertEqual(led(book, (), row), want)

    def bad(self, index, book, standing, row):
        with self.assertRaises(BadRow) as caught:
            led(book, standing, row)
        self.assertEqual(caught.exception.index, index)
        self.assertIs(type(caught.exception.index), int)

    def test_bad_row_for_no_tuple(self):
        for thing in odd_things() + [0, [0, 1], [(0,)]]:
            if not isinstance(thing, tuple):
                self.bad(-1, LATE, (), thing)
                self.bad(-1, EMPTY, (), thing)

    def test_bad_row_with_the_first_that_is_no_block(self):
        for thing in odd_things() + [2, 50, (), (0,)]:
            self.bad(0, LATE, (), (thing,))
            self.bad(0, LATE, (), (thing, thing, 0))
            self.bad(2, LATE, (), (0, 1, thing))
            self.bad(1, LATE, (0, 1, 2), (0, thing, 1, thing))
        self.bad(0, EMPTY, (), (0,))
        self.bad(1, KIN, (), (5, 1))

    def test_no_standing_ahead_of_bad_row(self):
        for thing in odd_things() + [(1,), (1, 2), (3,), 0, [0]]:
            for row in ((), (0,), (9,), None):
                with self.assertRaises(NoStanding):
                    led(LATE, thing, row)


class IsWilling(unittest.TestCase):
    def test_willing_rows_to_all(self):
        self.assertIs(is_willing(LATE, (), (0, 1)), True)
        self.assertIs(is_willing(LATE, (), (1, 0, 1)), True)
        self.assertIs(is_willing(LATE, (2,), (0, 1)), True)
        self.assertIs(is_willing(LATE, (0,), (1,)), True)
        self.assertIs(is_willing(LATE, (0, 1, 2), ()), True)
        self.assertIs(is_willing(EMPTY, (), ()), True)

    def test_not_all_is_there_behind_it(self):
        self.assertIs(is_willing(LATE, (), ()), False)
        self.assertIs(is_willing(LATE, (), (0,)), False)
        self.assertIs(is_willing(LATE, (), (1, 0)), False)

    def test_a_write_in_vain(self):
        self.assertIs(is_willing(LATE, (), (0, 0, 1)), False)
        self.assertIs(is_willing(LATE, (), (0, 1, 1)), False)
        self.assertIs(is_willing(LATE, (), (1, 1, 0, 1)), False)
        self.assertIs(is_willing(LATE, (0, 1, 2), (0,)), False)
        self.assertIs(is_willing(WAVED, (), (1, 0, 1, 0)), False)

    def test_no_rows(self):
        for thing in odd_things() + [0, [0, 1], (0, 2), (0, True), (False, 1), (0, 1, None), (None, 0, 1)]:
            self.assertIs(is_willing(LATE, (), thing), False)
            self.assertIs(is_willing(EMPTY, (), thing), False)
            self.assertIs(is_willing(LATE, (0, 1, 2), thing), False)

    def test_no_standing(self):
        for thing in odd_things() + [(1,), (1, 2), (3,), 0, [0]]:
            for row in ((), (0, 1), None):
                with self.assertRaises(NoStanding):
                    is_willing(LATE, thing, row)

    def test_just_the_willing_rows(self):
        for book in small_books():
            rows = willing_rows(book)
            blocks = tuple(blocks_of(book))
            for row in rows_up_to(blocks, 4):
                self.assertIs(is_willing(book, (), row), row in rows)


def rows_up_to(blocks, most):
    rows = [()]
    front = [()]
    for _ in range(most):
        front = [row + (block,) for row in front for block in blocks]
        rows = rows + front
    return rows


class Standings(unittest.TestCase):
    def test_ordinary(self):
        self.assertEqual(standings(EVEN), [(), (0,), (2,), (0, 1, 2), (0, 2, 3), (0, 1, 2, 3)])
        self.assertEqual(standings(LATE), [(), (0,), (2,), (0, 2), (0, 1, 2)])
        self.assertEqual(standings(WAVED), [(), (0,), (0, 2), (0, 1, 2)])
        self.assertEqual(standings(EMPTY), [()])

    def test_fewest_first_and_then_by_the_order_of_tuples(self):
        self.assertEqual(standings(lone(3)), [(), (0,), (1,), (2,), (0, 1), (0, 2), (1, 2), (0, 1, 2)])
        self.assertEqual(standings(lone(4))[5:11], [(0, 1), (0, 2), (0, 3), (1, 2), (1, 3), (2, 3)])

    def test_as_defined(self):
        for book in sample():
            self.assertEqual(standings(book), reached(book))
            for lot in standings(book):
                self.assertTrue(is_standing(book, lot))

    def test_1024_of_ten_lone_changes(self):
        lots = standings(lone(10))
        self.assertEqual(len(lots), 1024)
        self.assertEqual(lots, all_lots(10))


class ManyRows(unittest.TestCase):
    def test_ordinary(self):
        self.assertEqual([many_rows(book) for book in (EMPTY, LATE, EVEN, WAVED, KIN)], [1, 2, 2, 1, 2])

    def test_as_defined(self):
        for book in sample():
            self.assertEqual(many_rows(book), len(willing_rows(book)))

    def test_3628800_of_ten_lone_changes(self):
        self.assertEqual(many_rows(lone(10)), 3628800)
        self.assertEqual(many_rows(lone(10)), factorial(10))

    def test_two_chains(self):
        self.assertEqual(many_rows(beside(chain(40), chain(43))), comb(83, 40))


class TooManyStandings(unittest.TestCase):
    def many(self, function, book):
        with self.assertRaises(TooMany) as caught:
            function(book)
        self.assertEqual(caught.exception.most, 2000)

    def test_eleven_lone_changes(self):
        self.many(standings, lone(11))
        self.many(many_rows, lone(11))

    def test_2000_are_let(self):
        self.assertEqual(len(standings(two_thousand())), 2000)
        self.assertEqual(many_rows(two_thousand()), factorial(16) // factorial(4) ** 3)

    def test_2001_are_not(self):
        book = beside(beside(chain(2), chain(22)), chain(28))
        self.many(standings, book)
        self.many(many_rows, book)
        self.many(many_rows, Book(tuple(k % 50 for k in range(200)), ()))

    def test_many_changes_but_few_standings(self):
        self.assertEqual(len(standings(chain(200))), 201)
        self.assertEqual(many_rows(chain(200)), 1)
        self.assertEqual(standings(Book((8,) * 200, ())), [(), tuple(range(200))])


class GreatBooks(unittest.TestCase):
    def test_books_greater_than_a_book_lets(self):
        great = filled(beside(Book((49,) * 200, ()), chain(200)))
        whole = tuple(range(400))
        self.assertEqual(ripe(great, ()), (49, 50))
        self.assertEqual(comes(great, (), 49), tuple(range(200)))
        self.assertEqual(comes(great, (), 50), (200,))
        self.assertIs(is_standing(great, whole), True)
        self.assertIs(is_standing(great, whole[1:]), True)
        self.assertIs(is_standing(great, whole[:200] + whole[201:]), False)
        self.assertEqual(len(standings(great)), 402)
        self.assertEqual(many_rows(great), 201)
        row = (50, 51) * 100 + (49,)
        self.assertIs(is_willing(great, (), row), True)
        self.assertEqual(led(great, (), row)[-1], whole)


if __name__ == "__main__":
    unittest.main()
