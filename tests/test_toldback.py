"""11.1: logs, the logs of willing rows, and whether a book makes a log."""

import unittest
from itertools import permutations, product

from ripewaves.books import Book, beside, made_book
from ripewaves.errors import BadBlocks, NoLog, NotWilling
from ripewaves.toldback import fullest_book, is_log, log_of, makes
from oracle import (
    CHAIN, WIDE, Dice, all_lots, books_by_log, deep, odd_things, plain_log, small_books, thrown_books, willing_rows,
)

EMPTY = Book((), ())
LATE = Book((0, 1, 1), ((1, 0),))
LOG = ((1, (2,)), (0, (0,)), (1, (1,)))
WRONG_BLOCKS = odd_things() + [
    0, [0, 1, 1], {0: 0}, "011", (50,), (0, 50), (0, True), (0, -1), (0, None), (0, (0,)), (0,) * 201,
]


def drawn_logs(seed, many):
    """Pairs of the blocks of drawn books and the log of a row of each."""
    dice = Dice(seed)
    pairs = []
    for book in thrown_books(seed, many, 7, 4):
        rows = willing_rows(book)
        pairs.append((book, plain_log(book, rows[dice.below(len(rows))])))
    return pairs


def otherwise(blocks, log):
    """Things that are a log but for one thing."""
    things = [list(log), log + ((0,),), log + (None,), log + ((0, ()),), ((0, ()),) + log]
    for at, (block, lot) in enumerate(log):
        ahead, behind = log[:at], log[at + 1:]
        for pair in [
            (block, ()), (block, list(lot)), [block, lot], (block,), (block, lot, lot), (block + 1, lot),
            (block, lot[:-1]), (block, lot + lot[-1:]), (block, lot + (len(blocks),)), (True, lot), (str(block), lot),
            (block, lot[0]), None, block, lot, (block, tuple(str(change) for change in lot)), (lot, block),
            (block, tuple(change == 1 if change < 2 else str(change) for change in lot)), (block, (lot,)),
        ]:
            things.append(ahead + (pair,) + behind)
        things.append(ahead + behind)
        things.append(ahead + (log[at],) * 2 + behind)
        if len(lot) > 1:
            # two writes of one block side by side; and what does not ascend
            things.append(ahead + ((block, lot[:1]), (block, lot[1:])) + behind)
            things.append(ahead + ((block, lot[::-1]),) + behind)
        for other in range(len(blocks)):
            if other not in lot:
                things.append(ahead + ((block, tuple(sorted(lot + (other,)))),) + behind)
    return things


class IsLog(unittest.TestCase):
    def test_ordinary(self):
        for log in (LOG, ((0, (0,)), (1, (1, 2))), ((1, (1, 2)), (0, (0,))), ((1, (1,)), (0, (0,)), (1, (2,)))):
            self.assertIs(is_log((0, 1, 1), log), True)
        for log in ((), LOG[:2], LOG[1:], LOG + LOG[:1], ((1, (1,)), (1, (2,)), (0, (0,)))):
            self.assertIs(is_log((0, 1, 1), log), False)

    def test_the_empty_log(self):
        self.assertIs(is_log((), ()), True)
        for thing in ([], ((0, ()),), ((),), None, {}, ""):
            self.assertIs(is_log((), thing), False)
        self.assertIs(is_log((0,), ()), False)

    def test_the_logs_of_all_books_of_some_blocks_and_none_else(self):
        for blocks in [(0, 0), (0, 1), (0, 0, 0), (0, 0, 1), (0, 1, 0), (2, 0, 1), (0, 0, 1, 1), (0, 1, 0, 0)]:
            logs = set(books_by_log(blocks))
            writes = [(block, lot) for block in set(blocks) for lot in all_lots(len(blocks))]
            for size in range(4 if len(blocks) < 4 else 3):
                for thing in product(writes, repeat=size):
                    self.assertIs(is_log(blocks, thing), thing in logs)
            for log in logs:
                self.assertIs(is_log(blocks, log), True)
                for thing in permutations(log):
                    self.assertIs(is_log(blocks, thing), thing in logs)

    def test_drawn_logs_and_such_with_one_thing_otherwise(self):
        for book, log in drawn_logs(112, 120):
            self.assertIs(is_log(book.blocks, log), True)
            for thing in otherwise(book.blocks, log):
                self.assertIs(is_log(book.blocks, thing), False, (book.blocks, thing))

    def test_things_of_any_kind(self):
        for thing in odd_things() + [0, (0,), (1, (0,)), tuple([LOG[0]] * 6000), deep(lambda k: (0, (k,)), 20)]:
            self.assertIs(is_log((0, 1, 1), thing), False)
            self.assertIs(is_log((0, 1, 1), (thing,) + LOG[1:]), False)
            self.assertIs(is_log((0, 1, 1), ((1, thing),) + LOG[1:]), thing == (2,))
            self.assertIs(is_log((0, 1, 1), ((thing, (2,)),) + LOG[1:]), False)

    def test_bad_blocks_ahead(self):
        for blocks in WRONG_BLOCKS:
            for thing in (LOG, (), None, blocks):
                with self.assertRaises(BadBlocks):
                    is_log(blocks, thing)

    def test_the_bounds(self):
        blocks = (0, 49) * 100
        log = ((0, tuple(range(0, 200, 2))), (49, tuple(range(1, 200, 2))))
        self.assertIs(is_log(blocks, log), True)
        self.assertIs(is_log(blocks[1:], log), False)


class LogOf(unittest.TestCase):
    def test_ordinary(self):
        self.assertEqual(log_of(LATE, (1, 0, 1)), LOG)
        self.assertEqual(log_of(LATE, (0, 1)), ((0, (0,)), (1, (1, 2))))
        self.assertEqual(log_of(EMPTY, ()), ())

    def test_all_willing_rows(self):
        for book in small_books() + thrown_books(113, 60, 6, 3):
            for row in willing_rows(book)[:20]:
                log = log_of(book, row)
                self.assertEqual(log, plain_log(book, row))
                self.assertIs(is_log(book.blocks, log), True)
                self.assertIs(makes(book, log), True)

    def test_not_willing(self):
        rows = [(), (0,), (1, 0), (0, 1, 1), (0, 0, 1), (1, 1, 0, 1), (0, 2), (0, 1, 2), (0, True), [0, 1], "01", (2,)]
        for thing in odd_things() + rows + [0, 1, {0: 1}, ((0, 1),), (0, [1]), (0, 1) * 10000]:
            with self.assertRaises(NotWilling):
                log_of(LATE, thing)
        for thing in ((0,), [], None, ((),)):
            with self.assertRaises(NotWilling):
                log_of(EMPTY, thing)

    def test_great_books(self):
        great = beside(CHAIN, made_book((60, 70), ((1, 0),)))
        log = log_of(great, (0, 1, 2) * 66 + (0, 1) + (63, 73))
        self.assertEqual((len(log), log[-1], makes(great, log)), (202, (73, (201,)), True))
        self.assertIs(makes(great, log[:-2] + log[:-3:-1]), False)
        with self.assertRaises(NoLog):
            makes(great, log[:-1])
        with self.assertRaises(BadBlocks):
            is_log(great.blocks, log)


class Makes(unittest.TestCase):
    def test_against_all_logs_of_the_blocks(self):
        for blocks in [(0, 1), (0, 0, 1), (0, 1, 1), (2, 0, 1), (0, 1, 0, 1)]:
            table = books_by_log(blocks)
            for book in {book.needs: book for books in table.values() for book in books}.values():
                for log in table:
                    self.assertIs(makes(book, log), book in table[log])

    def test_ordinary(self):
        self.assertIs(makes(LATE, LOG), True)
        self.assertIs(makes(LATE, ((1, (1,)), (0, (0,)), (1, (2,)))), False)
        self.assertIs(makes(Book((0, 1, 1), ()), LOG), False)
        self.assertIs(makes(Book((0, 1, 1), ((1, 0), (2, 0))), LOG), False)
        self.assertIs(makes(EMPTY, ()), True)

    def test_a_book_that_needs_more_in_the_same_write(self):
        self.assertIs(makes(Book((0, 0, 1), ((0, 1), (2, 0))), ((0, (0, 1)), (1, (2,)))), True)

    def test_no_log(self):
        for thing in odd_things() + otherwise((0, 1, 1), LOG) + [(), 0, LOG[:2], ((1, (1, 2)),)]:
            with self.assertRaises(NoLog):
                makes(LATE, thing)
        with self.assertRaises(NoLog):
            makes(EMPTY, ((0, (0,)),))
        with self.assertRaises(NoLog):
            makes(WIDE, LOG)

    def test_the_fullest_book_makes_it(self):
        for book, log in drawn_logs(114, 60):
            self.assertIs(makes(fullest_book(book.blocks, log), log), True)


if __name__ == "__main__":
    unittest.main()
