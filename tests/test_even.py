"""3.1: the lengths of willing rows, even books, how many writes are left."""

import unittest
from math import comb

from ripewaves.books import Book, beside, filled, parted
from ripewaves.errors import TooMany
from ripewaves.even import fewest, is_even, is_lefts, lefts, longest, most, shortest
from ripewaves.standings import is_willing, standings
from oracle import odd_things, reached, small_books, thrown_books, willing_rows

EMPTY = Book((), ())
LATE = Book((0, 1, 1), ((1, 0),))
EVEN = Book((0, 0, 1, 1), ((1, 2), (3, 0)))
WAVED = Book((0, 0, 1), ((1, 2), (2, 0)))


def sample():
    return small_books() + [EVEN] + [
        book for blocks in range(1, 6) for book in thrown_books(40 + blocks, 60, 8, blocks)
    ]


def lone(many):
    """Changes of blocks of their own, without needs."""
    return Book(tuple(range(many)), ())


def chain(many):
    """Each change needs the one ahead, in the other of two blocks."""
    return Book(tuple(k % 2 for k in range(many)), tuple((k, k - 1) for k in range(1, many)))


class Lengths(unittest.TestCase):
    def test_ordinary(self):
        self.assertEqual((fewest(LATE), most(LATE), shortest(LATE), longest(LATE)), (2, 3, (0, 1), (1, 0, 1)))
        self.assertEqual((fewest(EVEN), most(EVEN), shortest(EVEN), longest(EVEN)), (3, 3, (0, 1, 0), (0, 1, 0)))
        self.assertEqual((fewest(WAVED), most(WAVED), shortest(WAVED), longest(WAVED)), (3, 3, (0, 1, 0), (0, 1, 0)))

    def test_a_book_without_changes(self):
        self.assertEqual((fewest(EMPTY), most(EMPTY), shortest(EMPTY), longest(EMPTY)), (0, 0, (), ()))
        self.assertIs(is_even(EMPTY), True)
        self.assertEqual(lefts(EMPTY), {(): 0})

    def test_against_all_willing_rows(self):
        uneven = 0
        for book in sample():
            rows = willing_rows(book)
            least, greatest = min(map(len, rows)), max(map(len, rows))
            uneven += least != greatest
            self.assertEqual((fewest(book), most(book)), (least, greatest))
            self.assertEqual(shortest(book), min(row for row in rows if len(row) == least))
            self.assertEqual(longest(book), min(row for row in rows if len(row) == greatest))
            self.assertIs(is_even(book), least == greatest)
        self.assertGreater(uneven, 50)

    def test_the_first_of_many(self):
        self.assertEqual((shortest(lone(5)), longest(lone(5))), ((0, 1, 2, 3, 4), (0, 1, 2, 3, 4)))
        two = beside(LATE, Book((3, 0, 0), ((1, 0),)))
        self.assertEqual(shortest(two), (0, 1, 5, 2))
        self.assertEqual(longest(two), (1, 0, 1, 2, 5, 2))
        self.assertEqual(shortest(Book((9, 3, 30), ())), (3, 9, 30))


class Lefts(unittest.TestCase):
    def test_ordinary(self):
        self.assertEqual(lefts(EVEN), {(): 3, (0,): 2, (2,): 2, (0, 1, 2): 1, (0, 2, 3): 1, (0, 1, 2, 3): 0})
        self.assertEqual(lefts(WAVED), {(): 3, (0,): 2, (0, 2): 1, (0, 1, 2): 0})
        self.assertIsNone(lefts(LATE))

    def test_as_defined(self):
        for book in sample():
            if len({len(row) for row in willing_rows(book)}) > 1:
                self.assertIsNone(lefts(book))
            else:
                want = {standing: len(willing_rows(book, standing)[0]) for standing in reached(book)}
                got = lefts(book)
                self.assertEqual(got, want)
                self.assertTrue(all(type(left) is int for left in got.values()))
                self.assertIs(is_lefts(book, want), True)

    def test_each_write_makes_one_less(self):
        book = beside(EVEN, WAVED)
        left = lefts(book)
        self.assertEqual(sorted(left), sorted(standings(book)))
        self.assertEqual(left[()], 6)

    def test_new_each_time(self):
        first = lefts(EVEN)
        first[()] = 9
        first[(1,)] = 9
        self.assertEqual(lefts(EVEN)[()], 3)
        self.assertNotIn((1,), lefts(EVEN))


class IsLefts(unittest.TestCase):
    def test_just_this_dict(self):
        for book in (EMPTY, EVEN, WAVED, lone(4), chain(5)):
            self.assertIs(is_lefts(book, lefts(book)), True)
            again = {standing: left for standing, left in reversed(lefts(book).items())}
            self.assertIs(is_lefts(book, again), True)

    def test_one_thing_otherwise(self):
        for book in (EVEN, WAVED, chain(5)):
            right = lefts(book)
            for standing in right:
                for other in (right[standing] + 1, right[standing] - 1, None, str(right[standing]), (), [0]):
                    self.assertIs(is_lefts(book, {**right, standing: other}), False)
                less = {key: left for key, left in right.items() if key != standing}
                self.assertIs(is_lefts(book, less), False)
                self.assertIs(is_lefts(book, {**less, (1,): right[standing]}), False)
                self.assertIs(is_lefts(book, {**less, None: right[standing]}), False)
                self.assertIs(is_lefts(book, {**less, str(standing): right[standing]}), False)
            for key in ((1,), (4,), (0, 0), (2, 0), 0, None, "()", ((),), b"", range(0), -1):
                for left in (0, 1, 3, None):
                    self.assertIs(is_lefts(book, {**right, key: left}), False)

    def test_flags_are_no_numbers(self):
        right = lefts(EVEN)
        for standing, left in right.items():
            if left < 2:
                self.assertIs(is_lefts(EVEN, {**right, standing: bool(left)}), False)
        self.assertIs(is_lefts(EMPTY, {(): False}), False)

    def test_other_things(self):
        right = lefts(EVEN)
        things = [list(right.items()), tuple(right.items()), list(right), right.items(), right.keys(), str(right)]
        for thing in odd_things() + things + [lefts(WAVED), {}, [right], (right,), {(): right}]:
            for book in (EMPTY, EVEN, LATE):
                self.assertIs(is_lefts(book, thing), False)
        for thing in odd_things():
            self.assertIs(is_lefts(EMPTY, {(): thing}), False)

    def test_a_book_that_is_not_even(self):
        least = {(): 2, (0,): 1, (2,): 2, (0, 2): 1, (0, 1, 2): 0}
        for thing in (None, {}, least, {**least, (): 3}, {standing: 0 for standing in least}):
            self.assertIs(is_lefts(LATE, thing), False)


class TooManyStandings(unittest.TestCase):
    def many(self, function, *given):
        with self.assertRaises(TooMany) as caught:
            function(*given)
        self.assertEqual(caught.exception.most, 2000)

    def test_eleven_lone_changes(self):
        for function in (fewest, most, shortest, longest, is_even, lefts):
            self.many(function, lone(11))
        for thing in odd_things() + [{(): 11}, {}]:
            self.many(is_lefts, lone(11), thing)

    def test_1024_standings_are_let(self):
        book = lone(10)
        row = tuple(range(10))
        self.assertEqual((fewest(book), most(book), shortest(book), longest(book)), (10, 10, row, row))
        self.assertIs(is_even(book), True)
        left = lefts(book)
        self.assertEqual(left, {lot: 10 - len(lot) for lot in standings(book)})
        self.assertIs(is_lefts(book, left), True)

    def test_2000_standings_are_let(self):
        book = beside(lone(4), beside(beside(chain(4), chain(4)), chain(4)))
        self.assertEqual(len(lefts(book)), 2000)
        self.assertEqual(fewest(book), 16)
        self.many(lefts, beside(beside(chain(2), chain(22)), chain(28)))


class GreatBooks(unittest.TestCase):
    def test_books_greater_than_a_book_lets(self):
        great = filled(beside(Book((49,) * 200, ()), chain(200)))
        self.assertEqual((fewest(great), most(great)), (201, 201))
        self.assertEqual(shortest(great), (49,) + (50, 51) * 100)
        self.assertEqual(len(lefts(great)), 402)
        self.assertIs(is_lefts(great, lefts(great)), True)
        late = beside(Book((49,) * 200, ()), beside(LATE, chain(2)))
        self.assertEqual((fewest(late), most(late)), (5, 6))
        self.assertIs(is_willing(late, (), longest(late)), True)
        self.assertIs(is_even(late), False)
        self.assertIsNone(lefts(late))
        self.assertIs(is_lefts(late, None), False)

    def test_blocks_of_fifty_and_more(self):
        book = Book(tuple(k // 4 for k in range(200)), tuple((k, k - 1) for k in range(1, 200)))
        for change in (0, 7, 199):
            book = parted(book, change)
        self.assertEqual(max(book.blocks), 52)
        self.assertEqual(fewest(book), 53)
        late = beside(book, LATE)
        self.assertEqual((fewest(late), most(late)), (55, 56))
        self.assertIs(is_willing(late, (), shortest(late)), True)
        self.assertEqual(shortest(late)[:3], (50, 0, 1))

    def test_two_chains(self):
        book = beside(chain(40), chain(43))
        self.assertEqual(len(lefts(book)), 41 * 44)
        self.assertEqual(lefts(book)[()], 83)
        self.assertEqual(comb(4, 2), len(lefts(beside(chain(2), chain(1)))))


if __name__ == "__main__":
    unittest.main()
