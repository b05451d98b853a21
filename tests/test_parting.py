"""3.2: to-and-fro rows of two ripe blocks, and where the rows of a book part."""

import unittest
from itertools import combinations

from ripewaves.books import Book, beside, filled
from ripewaves.errors import NoStanding, NotRipe, SameBlock, TooMany
from ripewaves.even import is_even, is_parting, parting, to_and_fro
from ripewaves.standings import led, ripe
from oracle import (
    all_lots, all_rows, behind, blocks_of, closed, odd_things, plain_to_and_fro, reached, ripe_blocks, row_lengths,
    small_books, thrown_books,
)

EMPTY = Book((), ())
LATE = Book((0, 1, 1), ((1, 0),))
EVEN = Book((0, 0, 1, 1), ((1, 2), (3, 0)))
WAVED = Book((0, 0, 1), ((1, 2), (2, 0)))
# in block 0 the changes 2, 1, 0 need one another in this row; 3 lies elsewhere
KIN = Book((0, 0, 0, 5), ((1, 0), (2, 1)))
# two blocks and a third one, on which the one change that comes last waits
HELD = Book((0, 1, 2, 1), ((3, 0), (3, 2)))


def sample():
    return small_books() + [EVEN, KIN, HELD] + thrown_books(51, 150, 7, 4) + thrown_books(52, 100, 8, 3)


def lone(many):
    """Changes of blocks of their own, without needs."""
    return Book(tuple(range(many)), ())


def chain(many):
    """Each change needs the one ahead, in the other of two blocks."""
    return Book(tuple(k % 2 for k in range(many)), tuple((k, k - 1) for k in range(1, many)))


class ToAndFro(unittest.TestCase):
    def test_ordinary(self):
        self.assertEqual(to_and_fro(LATE, (), 0, 1), (2, 1))
        self.assertEqual(to_and_fro(LATE, (), 1, 0), (1, 2))
        self.assertEqual(to_and_fro(EVEN, (), 0, 1), (2, 2))
        self.assertEqual(to_and_fro(lone(3), (1,), 0, 2), (1, 1))

    def test_just_what_the_two_can_bring(self):
        self.assertEqual(to_and_fro(HELD, (), 0, 1), (1, 1))
        self.assertEqual(to_and_fro(HELD, (2,), 0, 1), (2, 1))
        self.assertEqual(to_and_fro(HELD, (0,), 1, 2), (1, 2))

    def test_just_what_is_not_there(self):
        book = Book((0, 1, 0, 1), ((1, 0), (2, 1)))
        self.assertEqual(to_and_fro(book, (), 0, 1), (3, 2))
        self.assertEqual(to_and_fro(book, (0, 1), 0, 1), (1, 1))

    def test_needs_however_far(self):
        # 2 in block 1 needs 0 through 1, which lies in block 0 itself
        book = Book((0, 0, 1, 1), ((1, 0), (2, 1)))
        self.assertEqual(to_and_fro(book, (), 0, 1), (2, 1))
        self.assertEqual(to_and_fro(book, (0,), 1, 0), (1, 2))

    def test_the_longest_of_several_rows_to_one_change(self):
        # 0 to 3 by turns, and 5 behind 4; 6 needs both; 7 needs nothing
        book = Book((0, 1, 0, 1, 0, 1, 0, 1), ((1, 0), (2, 1), (3, 2), (5, 4), (6, 3), (6, 5)))
        self.assertEqual(to_and_fro(book, (), 0, 1), (5, 4))
        self.assertEqual(to_and_fro(book, (), 1, 0), (4, 5))

    def test_closed_lots_to_which_no_writes_lead(self):
        self.assertEqual(to_and_fro(KIN, (0, 1), 5, 0), (1, 1))
        book = Book((0, 0, 0, 1, 1), ((1, 0), (2, 1), (4, 2)))
        self.assertEqual(to_and_fro(book, (0,), 0, 1), (2, 1))

    def test_as_defined_at_all_closed_lots(self):
        pairs = 0
        for book in sample():
            for standing in all_lots(len(book.blocks)):
                if closed(book, standing):
                    for one, other in combinations(ripe_blocks(book, standing), 2):
                        want = plain_to_and_fro(book, standing, one, other)
                        self.assertEqual(to_and_fro(book, standing, one, other), want)
                        self.assertEqual(to_and_fro(book, standing, other, one), want[::-1])
                        self.assertLessEqual(abs(want[0] - want[1]), 1)
                        pairs += 1
        self.assertGreater(pairs, 1000)

    def test_a_book_is_even_exactly_if_all_pairs_are_alike(self):
        for book in sample():
            alike = True
            for standing in reached(book):
                for one, other in combinations(ripe(book, standing), 2):
                    first, second = to_and_fro(book, standing, one, other)
                    alike = alike and first == second
            self.assertIs(is_even(book), alike)
            self.assertIs(alike, len(row_lengths(book)) == 1)

    def test_writes_by_turns_take_as_many_as_the_numbers_tell(self):
        for book in thrown_books(53, 60, 8, 4):
            for standing in reached(book):
                for one, other in combinations(ripe(book, standing), 2):
                    first, second = to_and_fro(book, standing, one, other)
                    self.assertEqual(turns(book, standing, one, other), max(first, second + 1))
                    self.assertEqual(turns(book, standing, other, one), max(second, first + 1))


def turns(book, there, one, other):
    """How many writes by turns it takes until neither block is ripe."""
    many = 0
    while behind(book, there, one) != there or behind(book, there, other) != there:
        there = behind(book, there, one)
        one, other = other, one
        many += 1
    return many


class ToAndFroOfWrongThings(unittest.TestCase):
    def not_ripe(self, block, *given):
        with self.assertRaises(NotRipe) as caught:
            to_and_fro(*given)
        self.assertIs(caught.exception.block, block)

    def test_no_standing_ahead_of_all_else(self):
        for thing in odd_things() + [(1,), (1, 2), (3,), 0, [0]]:
            for one, other in ((0, 1), (0, 0), (9, 9), (None, 0), (thing, thing)):
                with self.assertRaises(NoStanding):
                    to_and_fro(LATE, thing, one, other)

    def test_not_ripe_for_what_is_no_block(self):
        for thing in odd_things() + [2, 50, (), (0,)]:
            self.not_ripe(thing, LATE, (), thing, 1)
            self.not_ripe(thing, LATE, (), 1, thing)
            self.not_ripe(thing, LATE, (), thing, thing)
            self.not_ripe(thing, LATE, (), thing, 9)
            self.not_ripe(thing, EMPTY, (), thing, 0)

    def test_not_ripe_with_the_first_of_both(self):
        self.not_ripe(1, WAVED, (), 0, 1)
        self.not_ripe(1, WAVED, (), 1, 0)
        self.not_ripe(0, LATE, (0,), 0, 1)
        self.not_ripe(0, LATE, (0, 1, 2), 0, 1)
        self.not_ripe(1, LATE, (0, 1, 2), 1, 0)
        self.not_ripe(0, LATE, (0,), 0, 9)
        self.not_ripe(9, LATE, (0,), 9, 0)
        self.not_ripe(1, Book((0, 1), ((1, 0),)), (), 1, 1)

    def test_same_block_behind_not_ripe(self):
        for book, standing, block in ((LATE, (), 0), (LATE, (0,), 1), (EVEN, (), 1), (KIN, (0, 1, 2), 5)):
            with self.assertRaises(SameBlock):
                to_and_fro(book, standing, block, block)

    def test_many_standings_are_no_matter(self):
        self.assertEqual(to_and_fro(lone(40), (), 7, 39), (1, 1))


class Parting(unittest.TestCase):
    def test_ordinary(self):
        self.assertEqual(parting(LATE), ((), (0, 1), (1, 0, 1)))
        for book in (EMPTY, EVEN, WAVED, lone(5), chain(9)):
            self.assertIsNone(parting(book))

    def test_against_plain_walks(self):
        found = 0
        for book in sample():
            triple = parting(book)
            if len(row_lengths(book)) == 1:
                self.assertIsNone(triple)
                continue
            found += 1
            self.assertIs(type(triple), tuple)
            standing, one, other = triple
            self.assertIn(standing, reached(book))
            ends = dict(all_rows(book, standing))
            self.assertEqual(ends[one], ends[other])
            self.assertEqual(len(other), len(one) + 1)
            self.assertIs(is_parting(book, triple), True)
        self.assertGreater(found, 30)

    def test_a_late_part_of_a_great_book(self):
        book = beside(beside(chain(100), Book((0, 1, 1), ((1, 0),))), Book((7,) * 100, ()))
        standing, one, other = parting(book)
        self.assertEqual(led(book, standing, one)[-1], led(book, standing, other)[-1])
        self.assertEqual(len(other), len(one) + 1)
        self.assertIs(is_parting(book, (standing, one, other)), True)
        self.assertIs(is_parting(filled(book), parting(filled(book))), True)


class IsParting(unittest.TestCase):
    def test_just_the_right_triples(self):
        for book in [LATE, HELD, KIN] + thrown_books(54, 30, 5, 3):
            lots = reached(book)
            for standing in all_lots(len(book.blocks)):
                rows = all_rows(book, standing) if closed(book, standing) else [((), ()), ((0,), ())]
                for one, end in rows:
                    for other, other_end in rows:
                        want = standing in lots and end == other_end and len(other) == len(one) + 1
                        self.assertIs(is_parting(book, (standing, one, other)), want)

    def test_rows_need_not_end_with_all_there(self):
        book = beside(LATE, lone(2))
        self.assertIs(is_parting(book, ((), (0, 1), (1, 0, 1))), True)
        self.assertIs(is_parting(book, ((3,), (0, 1), (1, 0, 1))), True)
        self.assertIs(is_parting(book, ((3,), (0, 1, 3), (1, 0, 1, 3))), True)
        self.assertIs(is_parting(book, ((3,), (0, 1, 2), (1, 0, 1, 2))), False)
        self.assertIs(is_parting(book, ((2,), (0, 1), (1, 0, 1))), False)

    def test_a_standing_that_can_not_come(self):
        # 1 and 2 come with 0, but a lot of 0 alone is closed; from there 3 and 4 part
        book = Book((0, 0, 1, 2, 2), ((1, 0), (3, 2)))
        self.assertIs(is_parting(book, ((0,), (1, 2), (2, 1, 2))), False)
        self.assertIs(is_parting(book, ((0, 1), (1, 2), (2, 1, 2))), True)
        self.assertIs(is_parting(book, ((), (1, 2), (2, 1, 2))), True)

    def test_one_thing_otherwise(self):
        right = ((), (0, 1), (1, 0, 1))
        self.assertIs(is_parting(LATE, right), True)
        wrong = [
            ((), (1, 0, 1), (0, 1)), ((), (0, 1), (0, 1)), ((), (1, 0, 1), (1, 0, 1)), ((0,), (0, 1), (1, 0, 1)),
            ((), (0, 1), (1, 0, 1, 1)), ((), (0, 1), (1, 1, 0)), ((), (0, 1), (1, 0)), ((), (0,), (1, 0)),
            ((), (0, 1, 1), (1, 0, 1)), ((), (), (0,)), ((), (0, 1), (1, 0, 2)), ((), (0, True), (1, 0, 1)),
            ((), (0, 1), (1, False, 1)), ((), [0, 1], (1, 0, 1)), ((), (0, 1), [1, 0, 1]), ([], (0, 1), (1, 0, 1)),
            ((), (0, 1)), ((), (0, 1), (1, 0, 1), ()), (), ((),), (None, (0, 1), (1, 0, 1)),
            ((1,), (0, 1), (1, 0, 1)), ((2, 0), (0, 1), (1, 0, 1)), ((), None, None), ((), -1, -1),
        ]
        for thing in wrong + [list(right), {0: right}, [right], (right,), "((), (0, 1), (1, 0, 1))"]:
            self.assertIs(is_parting(LATE, thing), False)

    def test_things_of_any_kind(self):
        for thing in odd_things():
            for book in (EMPTY, LATE, EVEN):
                for triple in (thing, (thing, (0, 1), (1, 0, 1)), ((), thing, (1, 0, 1)), ((), (0, 1), thing),
                               ((), (thing, 1), (1, 0, 1)), ((), (0, 1), (1, 0, thing)), ((thing,), (), ())):
                    self.assertIs(is_parting(book, triple), False)

    def test_an_even_book_has_none(self):
        for book in (EVEN, WAVED, EMPTY, lone(3)):
            self.assertIs(is_parting(book, None), False)
            for one, end in all_rows(book, ()):
                for other, other_end in all_rows(book, ()):
                    self.assertIs(is_parting(book, ((), one, other)), False)


class TooManyStandings(unittest.TestCase):
    def many(self, function, *given):
        with self.assertRaises(TooMany) as caught:
            function(*given)
        self.assertEqual(caught.exception.most, 2000)

    def test_eleven_lone_changes(self):
        self.many(parting, lone(11))
        for thing in odd_things() + [((), (0, 1), (1, 0, 1))]:
            self.many(is_parting, lone(11), thing)

    def test_1024_are_let(self):
        self.assertIsNone(parting(lone(10)))
        self.assertIs(is_parting(lone(10), ((), (0, 1), (1, 0, 1))), False)
        self.assertEqual(blocks_of(lone(10)), list(range(10)))


if __name__ == "__main__":
    unittest.main()
