"""7.2: an arm that sweeps there and back, and the best orders."""

import unittest
from itertools import permutations

from ripewaves.books import Book, beside, filled, made_book
from ripewaves.errors import NoOrder, NoRow, TooMany
from ripewaves.sweeps import best_order, best_turning, there_and_back, turns_of
from oracle import CHAIN, Dice, all_needs_rows, arm, blocks_of, odd_things, plain_turns, thrown_book, thrown_books
from test_sweeps import BACK, EMPTY, ORDER, sample, wrong_orders


def plain_best(book, turns):
    """The first of all orders with the fewest sweeps."""
    ranked = [(len(arm(book, order, turns)), order) for order in permutations(blocks_of(book))]
    return min(ranked)[1]


class ThereAndBack(unittest.TestCase):
    def test_ordinary(self):
        self.assertEqual(there_and_back(BACK, ORDER), [(0,), (1,), (2,)])
        self.assertEqual(there_and_back(BACK, (1, 0, 2)), [(0,), (1, 2)])
        self.assertEqual(there_and_back(BACK, (2, 0, 1)), [(0, 1, 2)])
        self.assertEqual(there_and_back(EMPTY, ()), [])

    def test_against_an_arm_that_turns(self):
        for book, order in sample():
            self.assertEqual(there_and_back(book, order), arm(book, order, True))

    def test_one_more_sweep_than_the_most_turns_of_a_row_of_needs(self):
        for book, order in sample():
            if 0 < len(book.blocks) <= 10:
                most = max(plain_turns(book, order, row) for row in all_needs_rows(book))
                self.assertEqual(len(there_and_back(book, order)), most + 1)

    def test_rows_of_needs_of_two_hundred_changes(self):
        for order in permutations((0, 1, 2)):
            self.assertEqual(there_and_back(CHAIN, order), arm(CHAIN, order, True))
        self.assertEqual(there_and_back(filled(CHAIN), ORDER), there_and_back(CHAIN, ORDER))

    def test_books_greater_than_the_bounds(self):
        great = beside(CHAIN, beside(CHAIN, made_book((77, 60, 77), ((1, 0), (2, 1)))))
        order = tuple(blocks_of(great))
        self.assertEqual(there_and_back(great, order), arm(great, order, True))

    def test_no_order(self):
        for thing in wrong_orders(ORDER):
            with self.assertRaises(NoOrder):
                there_and_back(BACK, thing)


class TurnsOf(unittest.TestCase):
    def test_drawn_rows(self):
        for book, order in sample():
            if len(book.blocks) <= 9:
                for row in all_needs_rows(book)[:200]:
                    self.assertEqual(turns_of(book, order, row), plain_turns(book, order, row))

    def test_the_next_change_in_the_same_block(self):
        book = Book((0, 0, 1, 1, 0, 0, 1), tuple((k, k - 1) for k in range(1, 7)))
        self.assertEqual(turns_of(book, (0, 1), (0, 1)), 0)
        self.assertEqual(turns_of(book, (0, 1), (0, 1, 2, 3)), 0)
        self.assertEqual(turns_of(book, (0, 1), (0, 1, 2, 3, 4, 5)), 1)
        self.assertEqual(turns_of(book, (0, 1), tuple(range(7))), 2)

    def test_it_goes_on_as_it_goes(self):
        book = Book((1, 0, 0, 2), ((1, 0), (2, 1), (3, 2)))
        # back it turns for block 0, stays in it without a turn, and must turn again for block 2
        self.assertEqual(turns_of(book, (0, 1, 2), (0, 1, 2, 3)), 2)
        # in the other order it goes on that way for block 0, and must turn for block 2 alone
        self.assertEqual(turns_of(book, (2, 1, 0), (0, 1, 2, 3)), 1)

    def test_at_the_beginning_of_the_row(self):
        # wherever the first change lies, it sets out in the order without a turn
        self.assertEqual(turns_of(BACK, ORDER, (0,)), 0)
        self.assertEqual(turns_of(BACK, ORDER, (0, 1)), 1)
        self.assertEqual(turns_of(BACK, ORDER, (1, 2)), 0)
        self.assertEqual(turns_of(BACK, ORDER, (0, 1, 2)), 2)
        self.assertEqual(turns_of(BACK, ORDER, (0, 2)), 1)

    def test_no_order_then_no_row(self):
        for thing in wrong_orders(ORDER):
            with self.assertRaises(NoOrder):
                turns_of(BACK, thing, thing)
        for thing in odd_things() + [(), [0], (0, 0), (1, 0), (0, 3), (0, True), (False,), "0", {0: 0}, 0]:
            with self.assertRaises(NoRow):
                turns_of(BACK, ORDER, thing)


class Best(unittest.TestCase):
    def test_against_all_orders_gone_through(self):
        for book in thrown_books(73, 60, 8, 4) + thrown_books(74, 10, 9, 5) + [EMPTY, BACK, Book((7, 3), ((0, 1),))]:
            self.assertEqual(best_order(book), plain_best(book, False))
            self.assertEqual(best_turning(book), plain_best(book, True))

    def test_the_first_of_several(self):
        self.assertEqual(best_order(Book((4, 2, 9), ())), (2, 4, 9))
        self.assertEqual(best_turning(Book((4, 2, 9), ())), (2, 4, 9))
        self.assertEqual((best_order(BACK), best_turning(BACK)), ((2, 0, 1), (2, 0, 1)))

    def test_no_blocks(self):
        self.assertEqual((best_order(EMPTY), best_turning(EMPTY)), ((), ()))

    def test_the_most_blocks(self):
        dice = Dice(75)
        book = thrown_book(dice, 14, 6)
        while len(blocks_of(book)) < 6:
            book = thrown_book(dice, 14, 6)
        order = best_order(book)
        self.assertEqual(len(arm(book, order, False)), min(len(arm(book, o, False)) for o in permutations(range(6))))
        for function in (best_order, best_turning):
            with self.assertRaises(TooMany) as caught:
                function(Book(tuple(range(7)), ((0, 6),)))
            self.assertEqual(caught.exception.most, 6)

    def test_two_hundred_changes_of_six_blocks(self):
        book = Book(tuple(k % 6 for k in range(200)), tuple((k, k - 1) for k in range(1, 200)))
        self.assertEqual(best_order(book), (0, 1, 2, 3, 4, 5))
        self.assertEqual(len(there_and_back(filled(book), best_turning(filled(book)))), 67)


if __name__ == "__main__":
    unittest.main()
