"""1.2: what is made of books."""

import unittest

from ripewaves.books import Book, above, bared, beneath, beside, day, filled, parted, put_together
from ripewaves.errors import NoBlock, NoChange, NoLot
from oracle import all_lots, odd_things, reach, small_books, thrown_books

EMPTY = Book((), ())
LATE = Book((0, 1, 1), ((1, 0),))
WAVED = Book((0, 0, 1), ((1, 2), (2, 0)))
CHAIN = Book((0, 1, 2, 3, 4), ((0, 3), (1, 0), (2, 4), (4, 1)))
LONG = Book((0,) * 200, tuple((change, change - 1) for change in range(1, 200)))


def sample():
    return small_books() + thrown_books(5, 150, 9, 4)


def changed(book):
    return tuple(range(len(book.blocks)))


class BeneathAndAbove(unittest.TestCase):
    def test_over_several_steps(self):
        self.assertEqual([beneath(CHAIN, c) for c in range(5)], [(3,), (0, 3), (0, 1, 3, 4), (), (0, 1, 3)])
        self.assertEqual([above(CHAIN, c) for c in range(5)], [(1, 2, 4), (2, 4), (), (0, 1, 2, 4), (2,)])

    def test_along_two_hundred(self):
        self.assertEqual(beneath(LONG, 199), tuple(range(199)))
        self.assertEqual(beneath(LONG, 0), ())
        self.assertEqual(above(LONG, 0), tuple(range(1, 200)))
        self.assertEqual(above(LONG, 199), ())

    def test_as_defined(self):
        for book in sample():
            far = reach(len(book.blocks), book.needs)
            for change in changed(book):
                self.assertEqual(beneath(book, change), tuple(sorted(far[change])))
                self.assertEqual(above(book, change), tuple(c for c in changed(book) if change in far[c]))

    def test_no_change(self):
        for function in (beneath, above):
            for thing in odd_things() + [3, 4, (), (0,)]:
                with self.assertRaises(NoChange):
                    function(WAVED, thing)
            with self.assertRaises(NoChange):
                function(EMPTY, 0)


class FilledAndBared(unittest.TestCase):
    def test_filled(self):
        self.assertEqual(filled(CHAIN), Book(CHAIN.blocks, (
            (0, 3), (1, 0), (1, 3), (2, 0), (2, 1), (2, 3), (2, 4), (4, 0), (4, 1), (4, 3))))
        self.assertEqual(filled(EMPTY), EMPTY)
        self.assertEqual(len(filled(LONG).needs), 19900)

    def test_bared(self):
        self.assertEqual(bared(Book((0, 5, 2), ((1, 0), (2, 0), (2, 1)))), Book((0, 5, 2), ((1, 0), (2, 1))))
        self.assertEqual(bared(filled(CHAIN)), CHAIN)
        self.assertEqual(bared(filled(WAVED)), WAVED)
        self.assertEqual(bared(filled(LONG)), LONG)
        self.assertEqual(bared(EMPTY), EMPTY)

    def test_bared_of_a_need_that_only_far_ones_spare(self):
        book = Book((0,) * 4, ((1, 0), (2, 1), (3, 0), (3, 2)))
        self.assertEqual(bared(book).needs, ((1, 0), (2, 1), (3, 2)))

    def test_as_defined(self):
        for book in sample():
            far = reach(len(book.blocks), book.needs)
            needs = tuple((c, o) for c in changed(book) for o in sorted(far[c]))
            self.assertEqual(filled(book), Book(book.blocks, needs))
            bare = bared(book)
            self.assertEqual(bare.blocks, book.blocks)
            self.assertEqual(reach(len(book.blocks), bare.needs), far)
            for at in range(len(bare.needs)):
                fewer = bare.needs[:at] + bare.needs[at + 1:]
                self.assertNotEqual(reach(len(book.blocks), fewer), far)

    def test_ascending(self):
        for book in sample():
            for made in (filled(book), bared(book)):
                self.assertEqual(made.needs, tuple(sorted(set(made.needs))))


class Day(unittest.TestCase):
    def test_needs_pass_through_those_that_do_not_come_up(self):
        self.assertEqual(day(CHAIN, (1, 2, 3)), Book((1, 2, 3), ((0, 2), (1, 0), (1, 2))))
        self.assertEqual(day(CHAIN, (2, 3)), Book((2, 3), ((0, 1),)))
        self.assertEqual(day(LONG, (0, 199)), Book((0, 0), ((1, 0),)))

    def test_of_nothing_and_of_all(self):
        self.assertEqual(day(CHAIN, ()), EMPTY)
        self.assertEqual(day(EMPTY, ()), EMPTY)
        self.assertEqual(day(CHAIN, (0, 1, 2, 3, 4)), filled(CHAIN))

    def test_as_defined(self):
        for book in thrown_books(6, 40, 6, 3):
            far = reach(len(book.blocks), book.needs)
            for lot in all_lots(len(book.blocks)):
                needs = [(a, b) for a, c in enumerate(lot) for b, o in enumerate(lot) if o in far[c]]
                self.assertEqual(day(book, lot), Book(tuple(book.blocks[c] for c in lot), tuple(needs)))

    def test_no_lot(self):
        for thing in odd_things() + [0, 1, (3,), (0, 3), (1, 0), (0, 0), (2, 1, 0), (0, 1, 1), [0, 1, 2]]:
            with self.assertRaises(NoLot):
                day(WAVED, thing)
        with self.assertRaises(NoLot):
            day(EMPTY, (0,))


class PutTogether(unittest.TestCase):
    def test_the_second_block_goes_into_the_first(self):
        book = Book((4, 0, 7, 4, 7), ((1, 0),))
        self.assertEqual(put_together(book, 4, 7), Book((4, 0, 4, 4, 4), ((1, 0),)))
        self.assertEqual(put_together(book, 7, 4), Book((7, 0, 7, 7, 7), ((1, 0),)))
        self.assertEqual(put_together(book, 0, 4), Book((0, 0, 7, 0, 7), ((1, 0),)))

    def test_a_block_with_itself(self):
        self.assertEqual(put_together(LATE, 1, 1), LATE)

    def test_no_block(self):
        book = Book((4, 0, 7, 1), ((1, 0),))
        for thing in odd_things() + [2, 3, 5, 6, 8, 50, (), (0,)]:
            with self.assertRaises(NoBlock):
                put_together(book, thing, 0)
            with self.assertRaises(NoBlock):
                put_together(book, 0, thing)
            with self.assertRaises(NoBlock):
                put_together(EMPTY, thing, thing)
        with self.assertRaises(NoBlock):
            put_together(EMPTY, 0, 0)


class Parted(unittest.TestCase):
    def test_into_the_least_number_that_is_no_block(self):
        self.assertEqual(parted(Book((0, 1, 1), ((1, 0),)), 1), Book((0, 2, 1), ((1, 0),)))
        self.assertEqual(parted(Book((1, 1, 3), ((1, 0),)), 0), Book((0, 1, 3), ((1, 0),)))
        self.assertEqual(parted(Book((0, 1, 3), ()), 2), Book((0, 1, 2), ()))

    def test_its_own_block_is_one_of_the_book_even_if_it_is_alone_there(self):
        self.assertEqual(parted(Book((0,), ()), 0), Book((1,), ()))

    def test_beyond_what_a_book_lets(self):
        book = parted(Book(tuple(range(50)) * 2, ()), 3)
        self.assertEqual(book.blocks, (0, 1, 2, 50) + tuple(range(4, 50)) + tuple(range(50)))
        again = parted(book, 99)
        self.assertEqual(again.blocks[99], 51)
        self.assertEqual(again.blocks[3], 50)

    def test_no_change(self):
        for thing in odd_things() + [3, 4, (), (0,)]:
            with self.assertRaises(NoChange):
                parted(LATE, thing)
        with self.assertRaises(NoChange):
            parted(EMPTY, 0)


class Beside(unittest.TestCase):
    def test_the_other_one_stands_behind_in_blocks_of_its_own(self):
        self.assertEqual(beside(LATE, WAVED), Book((0, 1, 1, 2, 2, 3), ((1, 0), (4, 5), (5, 3))))
        self.assertEqual(beside(WAVED, LATE), Book((0, 0, 1, 2, 3, 3), ((1, 2), (2, 0), (4, 3))))
        self.assertEqual(beside(Book((7, 2), ()), Book((3,), ())), Book((7, 2, 11), ()))

    def test_without_changes(self):
        self.assertEqual(beside(EMPTY, WAVED), WAVED)
        self.assertEqual(beside(EMPTY, Book((5,), ())), Book((5,), ()))
        self.assertEqual(beside(WAVED, EMPTY), WAVED)
        self.assertEqual(beside(EMPTY, EMPTY), EMPTY)

    def test_greater_than_a_book_lets(self):
        great = beside(beside(LONG, LONG), LONG)
        self.assertEqual(len(great.blocks), 600)
        self.assertEqual(set(great.blocks), {0, 1, 2})
        self.assertEqual(len(great.needs), 3 * 199)
        self.assertEqual(beneath(great, 599), tuple(range(400, 599)))
        self.assertEqual(above(great, 200), tuple(range(201, 400)))
        self.assertEqual(bared(filled(great)), great)
        self.assertEqual(day(great, (0, 399, 400, 599)), Book((0, 1, 2, 2), ((3, 2),)))
        self.assertEqual(set(put_together(great, 0, 2).blocks), {0, 1})
        self.assertEqual(parted(great, 599).blocks[599], 3)
        self.assertEqual(parted(great, 599).needs, great.needs)
        high = beside(Book((49,), ()), Book((49,), ()))
        self.assertEqual(high.blocks, (49, 99))


class RightArguments(unittest.TestCase):
    def test_all_that_is_right_is_let(self):
        for book in thrown_books(8, 30, 8, 4):
            for change in changed(book):
                beneath(book, change)
                above(book, change)
                moved = parted(book, change)
                self.assertEqual(moved.needs, book.needs)
                self.assertNotIn(moved.blocks[change], book.blocks)
            for one in set(book.blocks):
                for other in set(book.blocks):
                    made = put_together(book, one, other)
                    self.assertEqual(made.needs, book.needs)
                    self.assertEqual(made.blocks, tuple(one if b == other else b for b in book.blocks))


if __name__ == "__main__":
    unittest.main()
