"""5.1: to-and-fro rows of books of two blocks; 5.2: writes by turns; 5.3: a floor for all books."""

import unittest
from itertools import combinations, product

from ripewaves.books import Book, beside, filled, parted
from ripewaves.errors import NoBlock, NoChange, NotTwo
from ripewaves.even import fewest, is_even
from ripewaves.twoblocks import (
    by_turns, fewest_two, is_to_and_fro, long_row, number_at, pair_floor, row_to, two_rows,
)
from oracle import (
    behind, blocks_of, bring, odd_things, plain_day, reach, row_lengths, small_books, thrown_books, turn_rows_of,
)

EMPTY = Book((), ())
LATE = Book((0, 1, 1), ((1, 0),))
EVEN = Book((0, 0, 1, 1), ((1, 2), (3, 0)))
WAVED = Book((0, 0, 1), ((1, 2), (2, 0)))
NEEDS = tuple((a, b) for a in range(200) for b in range(a))[-4000:]
NOT_TWO = [EMPTY, Book((3,), ()), Book((3, 3, 3), ((0, 1),)), Book((0, 1, 2), ()), Book(tuple(range(50)), ())]


def sample():
    """Books of two blocks."""
    books = small_books() + [LATE, EVEN, WAVED, Book((7, 3, 7, 3), ((0, 1), (2, 3)))]
    books += thrown_books(111, 150, 7, 2) + thrown_books(112, 60, 8, 2)
    return [book for book in books if len(blocks_of(book)) == 2]


def everything(book):
    return tuple(range(len(book.blocks)))


def is_row(book, row):
    """Whether a tuple of changes is a to-and-fro row."""
    far = reach(len(book.blocks), book.needs)
    pairs = list(zip(row, row[1:]))
    return row != () and all(book.blocks[a] != book.blocks[b] and a in far[b] for a, b in pairs)


class NotTwoBlocks(unittest.TestCase):
    def test_ahead_of_all_else(self):
        for book in NOT_TWO:
            for thing in odd_things() + [0, 3, (), (0,), (0, 1)]:
                calls = [(is_to_and_fro, (thing,)), (by_turns, (thing,)), (number_at, (thing, thing)),
                         (number_at, (3, thing)), (row_to, (thing, thing)), (row_to, (3, thing)), (two_rows, ()),
                         (long_row, ()), (fewest_two, ())]
                for function, given in calls:
                    with self.assertRaises(NotTwo):
                        function(book, *given)


class IsToAndFro(unittest.TestCase):
    def test_ordinary(self):
        for row in ((0,), (1,), (2,), (0, 1)):
            self.assertIs(is_to_and_fro(LATE, row), True)
        for row in ((), (1, 0), (0, 2), (1, 2), (0, 1, 2), (0, 0), (3,), (0, 1, 0)):
            self.assertIs(is_to_and_fro(LATE, row), False)

    def test_needs_however_far(self):
        book = Book((0, 0, 1, 1), ((1, 0), (2, 1)))
        self.assertIs(is_to_and_fro(book, (0, 2)), True)
        self.assertIs(is_to_and_fro(book, (1, 2)), True)
        self.assertIs(is_to_and_fro(book, (0, 1)), False)
        self.assertIs(is_to_and_fro(book, (0, 1, 2)), False)

    def test_against_all_tuples_of_changes(self):
        for book in sample()[:200]:
            if len(book.blocks) < 6:
                for size in range(5):
                    for row in product(range(len(book.blocks)), repeat=size):
                        self.assertIs(is_to_and_fro(book, row), is_row(book, row))

    def test_things_of_any_kind(self):
        for thing in [0, [0, 1], "01", {0: 1}, {0: 1, 1: 0}]:
            self.assertIs(is_to_and_fro(LATE, thing), False)
        for thing in odd_things() + [[0], (0,), (0, 1), "0", 3]:
            if thing not in ((0,), (0, 1)):
                self.assertIs(is_to_and_fro(LATE, thing), False)
            self.assertIs(is_to_and_fro(LATE, (thing,)), False)
            self.assertIs(is_to_and_fro(LATE, (0, thing)), False)
            self.assertIs(is_to_and_fro(LATE, (thing, 1)), False)
        self.assertIs(is_to_and_fro(LATE, (False, True)), False)
        self.assertIs(is_to_and_fro(LATE, (0, True)), False)
        self.assertIs(is_to_and_fro(LATE, (0, 1, -1)), False)


class Rows(unittest.TestCase):
    def test_ordinary(self):
        self.assertEqual((two_rows(LATE), long_row(LATE), fewest_two(LATE)), ((2, 1), (0, 1), 2))
        self.assertEqual((two_rows(EVEN), fewest_two(EVEN)), ((2, 2), 3))
        self.assertEqual((two_rows(WAVED), long_row(WAVED), fewest_two(WAVED)), ((3, 2), (0, 2, 1), 3))
        self.assertEqual((two_rows(Book((0, 1), ())), fewest_two(Book((0, 1), ()))), ((1, 1), 2))

    def test_the_lesser_block_ahead(self):
        book = Book((7, 3, 3), ((1, 0),))
        self.assertEqual((two_rows(book), long_row(book)), ((1, 2), (0, 1)))

    def test_against_rows_gone_through(self):
        unlike = 0
        for book in sample():
            rows = [turn_rows_of(book, everything(book), begin) for begin in blocks_of(book)]
            lengths = tuple(max(len(row) for row in some) for some in rows)
            self.assertEqual(two_rows(book), lengths)
            self.assertEqual(len(long_row(book)), max(lengths))
            self.assertIn(long_row(book), rows[0] + rows[1])
            self.assertIs(is_to_and_fro(book, long_row(book)), True)
            unlike += lengths[0] < lengths[1]
        self.assertGreater(unlike, 20)

    def test_the_least_number_of_writes(self):
        for book in sample():
            self.assertEqual(fewest_two(book), row_lengths(book)[0])
            one, other = two_rows(book)
            self.assertEqual(fewest_two(book), max(one, other) + (one == other))

    def test_great_books(self):
        book = Book((0, 1) * 100, NEEDS)
        self.assertEqual((two_rows(book), fewest_two(book)), ((22, 23), 23))
        self.assertEqual(fewest_two(book), fewest(book))
        self.assertIs(is_to_and_fro(book, long_row(book)), True)
        chain = Book((0, 1) * 100, tuple((k, k - 1) for k in range(1, 200)))
        self.assertEqual((two_rows(chain), long_row(chain)), ((200, 199), everything(chain)))
        whole = filled(chain)
        self.assertEqual((two_rows(whole), fewest_two(whole)), ((200, 199), 200))
        self.assertEqual(fewest_two(Book((0,) * 199 + (1,), ())), 2)

    def test_blocks_of_fifty_and_more(self):
        book = beside(Book((49, 49, 49), ((1, 0),)), Book((0,), ()))
        self.assertEqual((set(book.blocks), two_rows(book)), ({49, 50}, (1, 1)))
        book = parted(Book((0,) * 200, tuple((k, k - 1) for k in range(1, 200))), 100)
        self.assertEqual((two_rows(book), fewest_two(book)), ((3, 2), 3))
        self.assertEqual(by_turns(book, 0), [tuple(range(100)), (100,), tuple(range(101, 200))])


class ByTurns(unittest.TestCase):
    def test_ordinary(self):
        self.assertEqual(by_turns(LATE, 0), [(0,), (1, 2)])
        self.assertEqual(by_turns(LATE, 1), [(2,), (0,), (1,)])
        self.assertEqual(by_turns(EVEN, 1), [(2,), (0, 1), (3,)])

    def test_the_first_lot_is_empty_if_the_block_is_not_ripe(self):
        self.assertEqual(by_turns(WAVED, 1), [(), (0,), (2,), (1,)])
        self.assertEqual(by_turns(WAVED, 0), [(0,), (2,), (1,)])

    def test_as_defined(self):
        empty = 0
        for book in sample():
            for block in blocks_of(book):
                lots, there, turn = [], (), block
                while len(there) < len(book.blocks):
                    lots.append(bring(book, there, turn))
                    there = behind(book, there, turn)
                    turn = sum(blocks_of(book)) - turn
                got = by_turns(book, block)
                self.assertEqual(got, lots)
                self.assertNotIn((), got[1:])
                empty += got[0] == ()
        self.assertGreater(empty, 20)

    def test_as_many_writes_as_the_rows_tell(self):
        for book in sample():
            one, other = two_rows(book)
            lesser, greater = blocks_of(book)
            self.assertEqual(len(by_turns(book, lesser)), max(one, other + 1))
            self.assertEqual(len(by_turns(book, greater)), max(other, one + 1))

    def test_no_block(self):
        for thing in odd_things() + [2, 50, (), (0,), "0"]:
            for call in ((by_turns, thing), (number_at, thing, 0), (number_at, thing, 9), (number_at, thing, thing),
                         (row_to, thing, 0), (row_to, thing, None), (row_to, thing, thing)):
                with self.assertRaises(NoBlock):
                    call[0](LATE, *call[1:])

    def test_lists_are_new(self):
        first = by_turns(LATE, 0)
        first.append(())
        first[0] = None
        self.assertEqual(by_turns(LATE, 0), [(0,), (1, 2)])


class NumbersAndRowsTo(unittest.TestCase):
    def test_ordinary(self):
        self.assertEqual([number_at(LATE, 0, change) for change in range(3)], [1, 2, 2])
        self.assertEqual([number_at(LATE, 1, change) for change in range(3)], [2, 3, 1])
        self.assertEqual([row_to(LATE, 0, change) for change in range(3)], [(0,), (0, 1), None])
        self.assertEqual([row_to(LATE, 1, change) for change in range(3)], [None, (1,), (2,)])

    def test_against_rows_gone_through(self):
        missing = 0
        for book in sample():
            rows = {begin: turn_rows_of(book, everything(book), begin) for begin in blocks_of(book)}
            for change in everything(book):
                lengths = {}
                for begin in rows:
                    ends = [row for row in rows[begin] if row[-1] == change]
                    lengths[begin] = max((len(row) for row in ends), default=0)
                    got = row_to(book, begin, change)
                    if not ends:
                        self.assertIsNone(got)
                        missing += 1
                    else:
                        self.assertIn(got, ends)
                        self.assertEqual(len(got), lengths[begin])
                for begin in rows:
                    other = lengths[sum(rows) - begin]
                    want = max(lengths[begin], other + 1 if other > 0 else 0)
                    self.assertEqual(number_at(book, begin, change), want)
                    self.assertIn(change, by_turns(book, begin)[want - 1])
        self.assertGreater(missing, 100)

    def test_no_change_behind_no_block(self):
        for thing in odd_things() + [3, 200, (), (0,), "0"]:
            for block in (0, 1):
                for function in (number_at, row_to):
                    with self.assertRaises(NoChange):
                        function(LATE, block, thing)

    def test_great_books(self):
        chain = Book((0, 1) * 100, tuple((k, k - 1) for k in range(1, 200)))
        self.assertEqual(row_to(chain, 0, 199), everything(chain))
        self.assertEqual(row_to(chain, 1, 198), everything(chain)[1:199])
        self.assertIsNone(row_to(chain, 1, 0))
        self.assertEqual((number_at(chain, 0, 199), number_at(chain, 1, 199)), (200, 201))
        book = Book((0, 1) * 100, NEEDS)
        for change in (0, 50, 178, 199):
            for block in (0, 1):
                row = row_to(book, block, change)
                if row is not None:
                    self.assertIs(is_to_and_fro(book, row), True)
                    self.assertEqual((book.blocks[row[0]], row[-1]), (block, change))


class PairFloor(unittest.TestCase):
    def test_ordinary(self):
        self.assertEqual([pair_floor(book) for book in NOT_TWO], [0, 1, 1, 3, 50])
        self.assertEqual([pair_floor(book) for book in (LATE, EVEN, WAVED)], [2, 3, 3])
        self.assertEqual(pair_floor(Book((0, 1, 0, 2), ((1, 0), (2, 1)))), 4)
        self.assertEqual(pair_floor(beside(WAVED, WAVED)), 5)

    def test_needs_pass_through_other_blocks(self):
        book = Book((0, 2, 1, 2, 0), ((1, 0), (2, 1), (3, 2), (4, 3)))
        self.assertEqual(pair_floor(book), 4)
        self.assertEqual(pair_floor(Book((0, 2, 1, 2, 0), ((1, 0), (2, 1), (3, 2), (4, 2)))), 4)

    def test_against_the_days_of_each_two_blocks(self):
        short = 0
        for book in sample() + thrown_books(113, 120, 7, 4) + thrown_books(114, 40, 8, 3):
            blocks = blocks_of(book)
            floors = [len(blocks)] if len(blocks) < 2 else []
            for pair in combinations(blocks, 2):
                day = plain_day(book, tuple(c for c in everything(book) if book.blocks[c] in pair))
                floors.append(row_lengths(day)[0] + len(blocks) - 2)
            self.assertEqual(pair_floor(book), max(floors))
            self.assertLessEqual(pair_floor(book), row_lengths(book)[0])
            short += pair_floor(book) < row_lengths(book)[0]
        self.assertGreater(short, 0)

    def test_of_two_blocks_it_is_the_least_number(self):
        for book in sample():
            self.assertEqual(pair_floor(book), fewest_two(book))

    def test_great_books(self):
        book = Book(tuple(range(50)) * 4, NEEDS)
        self.assertEqual(pair_floor(book), 51)
        for change in range(60):
            book = parted(book, change)
        self.assertEqual((len(blocks_of(book)), pair_floor(book)), (110, 111))
        chain = Book((0, 1) * 100, tuple((k, k - 1) for k in range(1, 200)))
        self.assertEqual(pair_floor(beside(chain, beside(LATE, chain))), 204)
        self.assertIs(is_even(chain), True)


if __name__ == "__main__":
    unittest.main()
