"""4.1: latecomers and days; 4.2: waves, what to part, the greatest share."""

import unittest
from fractions import Fraction
from itertools import combinations

from ripewaves.books import Book, beside, day, filled, parted
from ripewaves.days import (
    bad_days, fewest_parted, greatest_share, is_even_daily, latecomer, latecomers, many_writes, waves,
)
from ripewaves.errors import Late, NoBlock, TooMany
from ripewaves.even import fewest, is_even, most
from oracle import (
    Dice, all_lots, behind, blocks_of, bring, odd_things, plain_day, plain_latecomers, reach, row_lengths,
    small_books, thrown_book, thrown_books, willing_rows,
)

EMPTY = Book((), ())
LATE = Book((0, 1, 1), ((1, 0),))
EVEN = Book((0, 0, 1, 1), ((1, 2), (3, 0)))
WAVED = Book((0, 0, 1), ((1, 2), (2, 0)))


def sample():
    return small_books() + [EVEN] + thrown_books(61, 150, 7, 4) + thrown_books(62, 80, 8, 2)


def lone(many):
    """Changes of blocks of their own, without needs."""
    return Book(tuple(range(many)), ())


def chain(many):
    """Each change needs the one ahead, in the other of two blocks."""
    return Book(tuple(k % 2 for k in range(many)), tuple((k, k - 1) for k in range(1, many)))


def layers(sizes, blocks):
    """A book without latecomers: each change needs all of the layers ahead; layer k lies in block k % blocks."""
    places, needs, ahead = [], [], []
    for at, size in enumerate(sizes):
        layer = list(range(len(places), len(places) + size))
        needs += [(change, other) for change in layer for other in ahead]
        places += [at % blocks] * size
        ahead = ahead + layer
    return Book(tuple(places), tuple(needs))


class Latecomers(unittest.TestCase):
    def test_ordinary(self):
        self.assertEqual((latecomer(LATE), latecomers(LATE)), ((1, 0, 2), [(1, 0, 2)]))
        self.assertEqual((latecomer(EVEN), latecomers(EVEN)), ((1, 2, 0), [(1, 2, 0), (3, 0, 2)]))

    def test_books_without(self):
        for book in (EMPTY, WAVED, lone(9), chain(30), Book((4,) * 9, ((3, 1),))):
            self.assertIsNone(latecomer(book))
            self.assertEqual(latecomers(book), [])

    def test_the_third_needs_the_second_or_is_needed_by_it(self):
        self.assertEqual(latecomers(Book((0, 1, 1), ((1, 0), (2, 0)))), [])
        self.assertEqual(latecomers(Book((0, 1, 1), ((0, 2), (1, 0)))), [])
        self.assertEqual(latecomers(Book((0, 2, 1, 1), ((0, 1), (1, 3), (2, 0)))), [])

    def test_needs_however_far(self):
        self.assertEqual(latecomers(Book((0, 2, 1, 1), ((1, 0), (2, 1)))), [(2, 0, 3), (2, 1, 3)])
        self.assertEqual(latecomers(Book((0, 1, 1, 1), ((1, 0), (2, 1)))), [(1, 0, 3), (2, 0, 3)])

    def test_the_second_lies_in_another_block(self):
        self.assertEqual(latecomers(Book((1, 1, 1), ((1, 0),))), [])

    def test_as_defined(self):
        found = 0
        for book in sample():
            want = plain_latecomers(book)
            found += len(want)
            self.assertEqual(latecomers(book), want)
            self.assertEqual(latecomer(book), want[0] if want else None)
            self.assertIs(is_even_daily(book), not want)
        self.assertGreater(found, 200)

    def test_the_day_of_a_latecomer_takes_two_writes_or_three(self):
        for book in sample():
            for triple in latecomers(book):
                self.assertEqual(row_lengths(plain_day(book, tuple(sorted(triple)))), [2, 3])

    def test_great_books(self):
        great = beside(chain(200), beside(LATE, chain(200)))
        self.assertEqual(latecomers(great), [(201, 200, 202)])
        self.assertEqual(latecomer(filled(great)), (201, 200, 202))
        self.assertEqual(bad_days(great), [(200, 201, 202)])
        wide = Book((0,) * 60 + (1,) * 60, tuple((60 + k, k) for k in range(60)))
        self.assertEqual(len(latecomers(wide)), 60 * 59)
        self.assertEqual(latecomer(wide), (60, 0, 61))


class Days(unittest.TestCase):
    def test_ordinary(self):
        self.assertEqual(bad_days(LATE), [(0, 1, 2)])
        self.assertEqual(bad_days(EVEN), [(0, 1, 2), (0, 2, 3)])
        self.assertEqual(bad_days(WAVED), [])
        self.assertEqual(bad_days(EMPTY), [])

    def test_against_all_days_of_three_changes(self):
        for book in sample():
            want = [
                lot for lot in combinations(range(len(book.blocks)), 3) if len(row_lengths(plain_day(book, lot))) > 1
            ]
            self.assertEqual(bad_days(book), want)

    def test_even_on_every_day_against_all_days(self):
        for book in small_books() + [EVEN] + thrown_books(63, 60, 6, 3):
            want = all(len(row_lengths(plain_day(book, lot))) == 1 for lot in all_lots(len(book.blocks)))
            self.assertIs(is_even_daily(book), want)

    def test_an_even_book_may_have_days_that_are_not(self):
        self.assertIs(is_even(EVEN), True)
        self.assertIs(is_even_daily(EVEN), False)

    def test_each_bad_day_stands_once(self):
        book = Book((0, 1, 1, 0), ((1, 0), (2, 3)))
        self.assertEqual(latecomers(book), [(1, 0, 2), (2, 3, 1)])
        both = Book((0, 0, 1), ((0, 2),))
        self.assertEqual(bad_days(both), [(0, 1, 2)])
        for some in sample():
            lots = bad_days(some)
            self.assertEqual(lots, sorted(set(lots)))


class Waves(unittest.TestCase):
    def test_ordinary(self):
        self.assertEqual(waves(WAVED, 0), [(0,), (1,)])
        self.assertEqual(waves(WAVED, 1), [(2,)])
        self.assertEqual(many_writes(WAVED), 3)
        self.assertEqual(waves(chain(7), 0), [(0,), (2,), (4,), (6,)])
        self.assertEqual(many_writes(chain(7)), 7)
        self.assertEqual(waves(Book((4,) * 9, ((3, 1),)), 4), [tuple(range(9))])
        self.assertEqual(many_writes(EMPTY), 0)

    def test_waves_whose_numbers_do_not_ascend(self):
        book = Book((0, 0, 1, 0), ((0, 2), (2, 1), (2, 3)))
        self.assertEqual(waves(book, 0), [(1, 3), (0,)])
        book = Book((0, 0, 5, 7, 0, 3), ((0, 2), (1, 0), (1, 3), (2, 4), (2, 5), (3, 0), (5, 4)))
        self.assertEqual(waves(book, 0), [(4,), (0,), (1,)])

    def test_against_rows_of_willing_writers_all_gone_through(self):
        many = 0
        for book in small_books() + thrown_books(64, 250, 6, 3) + [layers((1, 2, 1, 2, 2), 2)]:
            if not plain_latecomers(book):
                many += len(blocks_of(book)) > 1 and len(book.needs) > 2
                for row in willing_rows(book):
                    self.follow(book, row)
        self.assertGreater(many, 20)

    def test_against_rows_of_willing_writers_that_are_drawn(self):
        dice = Dice(65)
        books = [layers((3, 1, 4, 2, 2, 5, 1, 1), blocks) for blocks in (2, 3, 4)]
        books += [beside(books[0], books[1]), beside(chain(50), layers((9, 9, 9, 9), 3))]
        for book in books:
            self.assertIs(is_even_daily(book), True)
            for _ in range(8):
                self.follow(book, drawn_row(book, dice))

    def follow(self, book, row):
        self.assertEqual(many_writes(book), len(row))
        came = {block: [] for block in blocks_of(book)}
        there = ()
        for block in row:
            came[block].append(bring(book, there, block))
            there = behind(book, there, block)
        for block in came:
            self.assertEqual(waves(book, block), came[block])

    def test_those_together_need_the_same_of_other_blocks(self):
        for book in thrown_books(66, 150, 7, 3):
            if plain_latecomers(book):
                continue
            far = reach(len(book.blocks), book.needs)
            for block in blocks_of(book):
                ahead = None
                for lot in waves(book, block):
                    needed = [{other for other in far[change] if book.blocks[other] != block} for change in lot]
                    self.assertTrue(all(some == needed[0] for some in needed))
                    self.assertTrue(ahead is None or ahead < needed[0])
                    ahead = needed[0]

    def test_no_block_ahead_of_late(self):
        for thing in odd_things() + [2, 50, (), (0,)]:
            for book in (EMPTY, LATE, EVEN, WAVED):
                with self.assertRaises(NoBlock):
                    waves(book, thing)

    def test_late_with_the_least_latecomer(self):
        for book in sample():
            want = plain_latecomers(book)
            if want:
                for block in blocks_of(book):
                    self.late(want[0], waves, book, block)
                self.late(want[0], many_writes, book)
            else:
                self.assertEqual(many_writes(book), len(willing_rows(book)[0]))

    def late(self, triple, *call):
        with self.assertRaises(Late) as caught:
            call[0](*call[1:])
        self.assertEqual(caught.exception.triple, triple)

    def test_great_books_and_many_standings(self):
        great = beside(filled(chain(200)), Book(tuple(range(50)) * 4, ()))
        self.assertEqual(many_writes(great), 250)
        self.assertEqual(waves(great, 51), [(249, 299, 349, 399)])
        self.assertEqual(waves(great, 1), [(number,) for number in range(1, 200, 2)])


def drawn_row(book, dice):
    """The row of a willing writer that throws for each block."""
    row, there = (), ()
    while len(there) < len(book.blocks):
        ripe = [block for block in blocks_of(book) if bring(book, there, block)]
        block = ripe[dice.below(len(ripe))]
        row += (block,)
        there = behind(book, there, block)
    return row


class FewestParted(unittest.TestCase):
    def test_ordinary(self):
        self.assertEqual(fewest_parted(LATE), (1,))
        self.assertEqual(fewest_parted(EVEN), (0, 2))
        for book in (EMPTY, WAVED, lone(10), chain(10)):
            self.assertEqual(fewest_parted(book), ())

    def test_against_all_lots_fewest_first(self):
        found = set()
        books = small_books() + [EVEN, LATE] + thrown_books(67, 150, 7, 3) + thrown_books(68, 60, 7, 2)
        for book in books:
            want = next(lot for lot in all_lots(len(book.blocks)) if not plain_latecomers(all_parted(book, lot)))
            self.assertEqual(fewest_parted(book), want)
            found.add(len(want))
        self.assertEqual(found, {0, 1, 2, 3})

    def test_gaps_among_the_blocks_are_filled(self):
        dice = Dice(69)
        for _ in range(80):
            book = thrown_book(dice, 7, 4)
            gaps = Book(tuple(2 * block + 1 for block in book.blocks), book.needs)
            want = next(lot for lot in all_lots(len(gaps.blocks)) if not plain_latecomers(all_parted(gaps, lot)))
            self.assertEqual(fewest_parted(gaps), want)
            self.assertEqual(want, fewest_parted(book))

    def test_too_many(self):
        for book in (lone(11), Book((3,) * 11, ()), beside(LATE, lone(8)), chain(200)):
            with self.assertRaises(TooMany) as caught:
                fewest_parted(book)
            self.assertEqual(caught.exception.most, 10)

    def test_ten_are_let(self):
        self.assertEqual(fewest_parted(beside(LATE, lone(7))), (1,))
        self.assertEqual(fewest_parted(beside(beside(LATE, LATE), beside(LATE, lone(1)))), (1, 4, 7))
        self.assertEqual(fewest_parted(Book((0,) * 10, ())), ())


def all_parted(book, lot):
    """The book in which each change of a lot lies in the least number that is no block, one behind another."""
    blocks = list(book.blocks)
    for change in lot:
        blocks[change] = next(number for number in range(99) if number not in blocks)
    return Book(tuple(blocks), book.needs)


class GreatestShare(unittest.TestCase):
    def test_ordinary(self):
        self.assertEqual(greatest_share(LATE), (3, 2))
        self.assertEqual(greatest_share(EVEN), (3, 2))

    def test_none_late(self):
        for book in (EMPTY, WAVED, lone(7), chain(7), Book((3,), ())):
            self.assertEqual(greatest_share(book), (1, 1))

    def test_against_all_days(self):
        found = set()
        books = small_books() + [EVEN] + thrown_books(70, 40, 6, 3) + thrown_books(71, 12, 7, 2)
        for book in books:
            want = Fraction(1)
            for lot in all_lots(len(book.blocks))[1:]:
                lengths = row_lengths(plain_day(book, lot))
                want = max(want, Fraction(lengths[-1], lengths[0]))
            got = greatest_share(book)
            self.assertEqual(got, (want.numerator, want.denominator))
            self.assertEqual(got == (1, 1), is_even_daily(book))
            self.assertTrue(got == (1, 1) or 2 * got[0] >= 3 * got[1])
            found.add(got)
        self.assertTrue(found >= {(1, 1), (3, 2)})

    def test_lowest_terms(self):
        book = Book((2, 2, 0, 1, 0, 2), ((0, 2), (4, 3), (5, 0), (5, 3)))
        self.assertEqual((most(book), fewest(book)), (6, 3))
        self.assertEqual(greatest_share(book), (2, 1))
        self.assertEqual(greatest_share(Book((0, 1, 1, 1, 1, 2, 0), ((1, 6), (3, 0), (4, 5), (6, 5)))), (7, 3))

    def test_too_many(self):
        for book in (lone(8), beside(LATE, lone(5)), Book((0,) * 8, ()), chain(200)):
            with self.assertRaises(TooMany) as caught:
                greatest_share(book)
            self.assertEqual(caught.exception.most, 7)

    def test_seven_are_let(self):
        book = beside(LATE, lone(4))
        self.assertEqual(greatest_share(book), (3, 2))
        self.assertEqual((most(book), fewest(book)), (7, 6))
        self.assertEqual(greatest_share(beside(beside(LATE, LATE), lone(1))), (3, 2))
        self.assertEqual(greatest_share(day(beside(EVEN, LATE), tuple(range(7)))), (3, 2))
        self.assertEqual(greatest_share(parted(LATE, 1)), (1, 1))


if __name__ == "__main__":
    unittest.main()
