"""7.1: an arm that sweeps, and steps back in rows of needs."""

import unittest
from itertools import permutations

from ripewaves.books import Book, beside, filled, made_book, parted
from ripewaves.errors import NoChange, NoOrder, NoRow
from ripewaves.sweeps import back_row, steps_back, sweep_of, swept
from oracle import (
    CHAIN, Dice, all_needs_rows, arm, blocks_of, deep, needs_rows, odd_things, plain_steps_back, reach, small_books,
    thrown_book, thrown_books, thrown_order,
)

EMPTY = Book((), ())
BACK = Book((2, 0, 1), ((1, 0), (2, 1)))
ORDER = (0, 1, 2)


def sample():
    """Pairs of a book and an order of its blocks."""
    dice = Dice(71)
    pairs = [(book, order) for book in small_books() for order in permutations(blocks_of(book))]
    for blocks in range(1, 6):
        for _ in range(40):
            book = thrown_book(dice, 14, blocks)
            pairs.append((book, thrown_order(dice, book)))
    return pairs


def wrong_orders(order):
    """What is no order of the same three blocks."""
    one, other, third = order
    return odd_things() + [
        (), list(order), [], {}, {block: block for block in order}, "012", b"012", range(3), (one,), (one, other),
        (one, other, other), (one, other, third, third), (one, other, third, 3), (one, other, 49), (one, other, -1),
        (one, other, None), (one, other, str(third)), (one, other, (third,)), (one, other, [third]),
        (0, True, 2), (False, 1, 2), (0, 1, 2, deep(lambda inner: [inner], 39)), (one, other, Book((), ())),
        ((one, other, third),), (0, 1, 10 ** 59), tuple(order) * 6000,
    ]


class Swept(unittest.TestCase):
    def test_the_example(self):
        self.assertEqual((swept(BACK, ORDER), steps_back(BACK, ORDER, (0, 1, 2))), ([(0,), (1, 2)], 1))

    def test_ordinary(self):
        self.assertEqual(swept(BACK, (2, 1, 0)), [(0, 1), (2,)])
        self.assertEqual(swept(BACK, (2, 0, 1)), [(0, 1, 2)])
        self.assertEqual(swept(BACK, (1, 0, 2)), [(0,), (1,), (2,)])

    def test_against_an_arm_that_goes_step_by_step(self):
        for book, order in sample():
            self.assertEqual(swept(book, order), arm(book, order, False))

    def test_a_block_is_ripe_again_within_a_sweep(self):
        book = Book((0, 1, 0, 1), ((1, 0), (2, 1), (3, 2)))
        self.assertEqual(swept(book, (0, 1)), [(0, 1), (2, 3)])
        self.assertEqual(swept(book, (1, 0)), [(0,), (1, 2), (3,)])

    def test_books_without_changes(self):
        self.assertEqual(swept(EMPTY, ()), [])
        self.assertIsNone(back_row(EMPTY, ()))

    def test_rows_of_needs_of_two_hundred_changes(self):
        self.assertEqual(swept(CHAIN, (2, 1, 0)), arm(CHAIN, (2, 1, 0), False))
        self.assertEqual(len(swept(CHAIN, (0, 1, 2))), 67)
        self.assertEqual(len(swept(CHAIN, (2, 1, 0))), 134)
        self.assertEqual(steps_back(CHAIN, (2, 1, 0), tuple(range(200))), 133)
        self.assertEqual(steps_back(CHAIN, (2, 1, 0), tuple(range(0, 200, 3))), 0)
        self.assertEqual(back_row(CHAIN, (2, 1, 0))[-1], 199)
        self.assertEqual(sweep_of(filled(CHAIN), (2, 1, 0), 199), 134)

    def test_books_greater_than_the_bounds(self):
        great = beside(beside(CHAIN, CHAIN), parted(CHAIN, 0))
        order = tuple(sorted(set(great.blocks), reverse=True))
        self.assertEqual(len(great.blocks), 600)
        self.assertEqual(swept(great, order), arm(great, order, False))
        high = made_book((70, 60, 70), ((1, 0), (2, 1)))
        self.assertEqual(swept(high, (60, 70)), [(0,), (1, 2)])
        self.assertEqual((sweep_of(high, (70, 60), 2), back_row(high, (60, 70))[:2]), (2, (0, 1)))


class SweepOf(unittest.TestCase):
    def test_one_more_than_the_most_steps_back_of_rows_that_end_with_it(self):
        for book, order in sample():
            if len(book.blocks) > 10:
                continue
            far = reach(len(book.blocks), book.needs)
            for change in range(len(book.blocks)):
                most = max(plain_steps_back(book, order, row) for row in needs_rows(far, change))
                self.assertEqual(sweep_of(book, order, change), most + 1)

    def test_against_the_arm(self):
        for book, order in sample():
            for number, lot in enumerate(arm(book, order, False)):
                for change in lot:
                    self.assertEqual(sweep_of(book, order, change), number + 1)

    def test_no_change(self):
        for thing in odd_things() + [3, 4, 10 ** 59, (0,), [0]]:
            with self.assertRaises(NoChange):
                sweep_of(BACK, ORDER, thing)
        with self.assertRaises(NoChange):
            sweep_of(EMPTY, (), 0)


class StepsBack(unittest.TestCase):
    def test_drawn_rows(self):
        for book, order in sample():
            if len(book.blocks) <= 9:
                for row in all_needs_rows(book)[:200]:
                    self.assertEqual(steps_back(book, order, row), plain_steps_back(book, order, row))

    def test_the_same_block_is_no_step_back(self):
        book = Book((1, 1, 0, 0), ((1, 0), (2, 1), (3, 2)))
        self.assertEqual(steps_back(book, (0, 1), (0, 1)), 0)
        self.assertEqual(steps_back(book, (0, 1), (0, 1, 2, 3)), 1)
        self.assertEqual(steps_back(book, (1, 0), (0, 1, 2, 3)), 0)
        self.assertEqual(steps_back(book, (0, 1), (0, 3)), 1)
        self.assertEqual(steps_back(book, (0, 1), (3,)), 0)

    def test_no_row(self):
        rows = [(), [0], [0, 1], (1, 0), (0, 0), (0, 2, 1), (2, 1), (0, 3), (3,), "01", {0: 1}, (0, (1,)), (0, [1])]
        rows += [(True,), (0, True), (False, 1), (0, "1"), (0, None), (0, 1, 2, -1), (0, deep(lambda k: (k,), 39))]
        for thing in odd_things() + rows + [0, 1, tuple([0] * 19999)]:
            with self.assertRaises(NoRow):
                steps_back(BACK, ORDER, thing)
        with self.assertRaises(NoRow):
            steps_back(EMPTY, (), ())

    def test_rows_that_go_along_needs_alone(self):
        for book in thrown_books(72, 40, 4, 3):
            order = tuple(blocks_of(book))
            right = all_needs_rows(book)
            many = len(book.blocks)
            for size in range(4):
                for row in permutations(range(many), size):
                    if row in right:
                        self.assertEqual(steps_back(book, order, row), plain_steps_back(book, order, row))
                    else:
                        with self.assertRaises(NoRow):
                            steps_back(book, order, row)


class BackRow(unittest.TestCase):
    def test_a_row_of_needs_with_the_most_steps_back_of_all(self):
        for book, order in sample():
            row = back_row(book, order)
            if book == EMPTY:
                self.assertIsNone(row)
            elif len(book.blocks) <= 10:
                rows = all_needs_rows(book)
                self.assertIn(row, rows)
                most = max(plain_steps_back(book, order, other) for other in rows)
                self.assertEqual(plain_steps_back(book, order, row), most)

    def test_one_step_less_than_sweeps(self):
        for book, order in sample():
            if book != EMPTY:
                self.assertEqual(steps_back(book, order, back_row(book, order)) + 1, len(swept(book, order)))


class Orders(unittest.TestCase):
    def test_no_order(self):
        for thing in wrong_orders(ORDER):
            for function, given in ((swept, ()), (back_row, ()), (sweep_of, (0,)), (steps_back, ((0,),))):
                with self.assertRaises(NoOrder):
                    function(BACK, thing, *given)

    def test_ahead_of_no_change_and_no_row(self):
        for thing in wrong_orders(ORDER):
            for function in (sweep_of, steps_back):
                with self.assertRaises(NoOrder):
                    function(BACK, thing, thing)

    def test_the_order_of_no_blocks(self):
        for thing in [[], (0,), ((),), None, {}, ""]:
            with self.assertRaises(NoOrder):
                swept(EMPTY, thing)
            with self.assertRaises(NoOrder):
                back_row(EMPTY, thing)


if __name__ == "__main__":
    unittest.main()
