"""0.3 and 0.4: nothing is changed, what is returned is new, equal calls give equal answers; the examples."""

import copy
import unittest

from ripewaves import books
from ripewaves import standings as rows
from ripewaves.books import Book, bared, drawn_together, filled
from ripewaves.errors import WaveError
from ripewaves.standings import led, many_rows, standings
from oracle import deep, odd_things, thrown_books

EVEN = Book((0, 0, 1, 1), ((1, 2), (3, 0)))
WAVED = Book((0, 0, 1), ((1, 2), (2, 0)))
NEEDS = tuple((a, b) for a in range(200) for b in range(a))[-4000:]


def right_calls(book):
    """Functions, each with right arguments for a book that has the blocks 0 and 1 and two changes or more."""
    many = len(book.blocks)
    whole = tuple(range(many))
    return [
        (books.beneath, (book, 1)), (books.above, (book, 0)), (books.filled, (book,)), (books.bared, (book,)),
        (books.day, (book, (0, 1))), (books.put_together, (book, 0, 1)), (books.parted, (book, 1)),
        (books.beside, (book, WAVED)), (books.beside, (WAVED, book)),
        (books.drawn_together, (book.blocks, book.needs)),
        (rows.is_standing, (book, whole)), (rows.comes, (book, (), 1)), (rows.ripe, (book, ())),
        (rows.led, (book, (), (0, 1, 0))), (rows.is_willing, (book, (), (0, 1, 0))),
        (rows.standings, (book,)), (rows.many_rows, (book,)),
    ]


def wrong_calls(book):
    """Functions, each with arguments for which it raises an error."""
    loop = ((0, 1), (1, 0))
    return [
        (Book, ([0], ())), (Book, ((0, 1), loop)), (books.beneath, (book, 99)), (books.above, (book, [0])),
        (books.day, (book, [0, 1])), (books.put_together, (book, 0, {0: 1})), (books.parted, (book, None)),
        (books.drawn_together, ((0, 1), loop)), (books.drawn_together, ((0, 1), [(0, 1)])),
        (rows.comes, (book, [], 0)), (rows.comes, (book, (), [0])), (rows.ripe, (book, {})),
        (rows.led, (book, (), [0, 1])), (rows.led, (book, (), (0, [1]))), (rows.is_willing, (book, [0], ())),
    ]


def sample():
    many = [book for book in thrown_books(31, 60, 7, 3) if {0, 1} <= set(book.blocks)]
    return many + [EVEN, WAVED, Book((0, 1) * 100, NEEDS)]


class Unchanged(unittest.TestCase):
    def test_right_calls_leave_their_arguments(self):
        for book in sample():
            for function, given in right_calls(book):
                before = copy.deepcopy(given)
                inside = [copy.deepcopy(vars(thing)) for thing in given if isinstance(thing, Book)]
                function(*given)
                self.assertEqual(given, before)
                self.assertEqual([vars(thing) for thing in given if isinstance(thing, Book)], inside)

    def test_wrong_calls_leave_their_arguments(self):
        for book in (EVEN, WAVED):
            for function, given in wrong_calls(book):
                before = copy.deepcopy(given)
                with self.assertRaises(WaveError):
                    function(*given)
                self.assertEqual(given, before)

    def test_odd_things_are_left(self):
        for at, thing in enumerate(odd_things()):
            if isinstance(thing, (list, dict)):
                before = copy.deepcopy(thing)
                rows.is_standing(EVEN, thing)
                rows.is_willing(EVEN, (), thing)
                for function, given in ((books.day, (EVEN, thing)), (rows.led, (EVEN, (), thing))):
                    with self.subTest(at), self.assertRaises(WaveError):
                        function(*given)
                self.assertTrue(thing == before)

    def test_equal_calls_give_equal_answers(self):
        for book in sample():
            again = Book(book.blocks, book.needs)
            for (function, given), (_, other) in zip(right_calls(book), right_calls(again)):
                first = function(*given)
                self.assertEqual(first, function(*given))
                self.assertEqual(first, function(*other))


class New(unittest.TestCase):
    def test_lists_that_are_returned_are_new(self):
        for function, given in ((standings, (EVEN,)), (led, (EVEN, (), (0, 1)))):
            first = function(*given)
            kept = list(first)
            first.append(None)
            first[0] = None
            second = function(*given)
            self.assertEqual(second, kept)
            self.assertIsNot(first, second)

    def test_kinds_of_results(self):
        for book in sample():
            for function, given in right_calls(book):
                kind = type(function(*given))
                self.assertIs(kind, KINDS[function.__name__], function.__name__)
        for lot in standings(EVEN) + led(EVEN, (), (0, 1)):
            self.assertIs(type(lot), tuple)

    def test_copies_of_books_are_equal(self):
        for book in sample():
            self.assertEqual(copy.copy(book), book)
            self.assertEqual(copy.deepcopy(book), book)


KINDS = {
    "beneath": tuple, "above": tuple, "filled": Book, "bared": Book, "day": Book, "put_together": Book,
    "parted": Book, "beside": Book, "drawn_together": tuple, "is_standing": bool, "comes": tuple, "ripe": tuple,
    "led": list, "is_willing": bool, "standings": list, "many_rows": int,
}


class DeepThings(unittest.TestCase):
    def test_things_nested_forty_deep_raise_the_named_errors_alone(self):
        for many in range(1, 41):
            for make in (lambda inner: (inner,), lambda inner: [inner], lambda inner: {0: inner}):
                self.judged(deep(make, many))

    def test_wide_things(self):
        for thing in (tuple([None] * 20000), [0] * 20000, tuple(range(20000)), tuple([()] * 20000), (0,) * 20000):
            self.judged(thing)

    def judged(self, thing):
        self.assertIs(rows.is_standing(EVEN, thing), False)
        self.assertIs(rows.is_willing(EVEN, (), thing), False)
        calls = [
            (Book, (thing, ())), (Book, ((0, 0), (thing,))), (drawn_together, (thing, ())),
            (drawn_together, ((0, 0), (thing,))), (books.beneath, (EVEN, thing)), (books.above, (EVEN, thing)),
            (books.day, (EVEN, thing)), (books.parted, (EVEN, thing)), (books.put_together, (EVEN, thing, thing)),
            (rows.ripe, (EVEN, thing)), (rows.comes, (EVEN, thing, 0)), (rows.comes, (EVEN, (), thing)),
            (rows.led, (EVEN, thing, ())), (rows.led, (EVEN, (), (thing,))), (rows.is_willing, (EVEN, thing, ())),
        ]
        for function, given in calls:
            with self.assertRaises(WaveError):
                function(*given)

    def test_long_rows_of_needs_raise_no_recursion_error(self):
        chain = Book((0, 1) * 100, tuple((k, k - 1) for k in range(1, 200)))
        great = chain
        for _ in range(4):
            great = books.beside(great, great)
        self.assertEqual(len(great.blocks), 3200)
        self.assertEqual(books.beneath(great, 3199), tuple(range(3000, 3199)))
        self.assertEqual(bared(great), great)
        self.assertEqual(len(standings(books.day(great, tuple(range(200))))), 201)
        self.assertEqual(led(great, (), (1, 0, 1)), [(), (), (0,), (0, 1)])


class Examples(unittest.TestCase):
    def test_e03(self):
        self.assertEqual((standings(EVEN), many_rows(EVEN)),
                         ([(), (0,), (2,), (0, 1, 2), (0, 2, 3), (0, 1, 2, 3)], 2))

    def test_e04(self):
        self.assertIs(bared(filled(WAVED)) == WAVED, True)

    def test_e08(self):
        got = drawn_together((0, 0, 1), ((0, 1), (1, 0), (2, 1)))
        self.assertTrue(got == (Book((0, 1), ((1, 0),)), ((0, 1), (2,))))

    def test_the_books_that_the_examples_begin_with(self):
        for blocks, needs in (
            ((0, 1, 1), ((1, 0),)), ((0, 0, 1, 1), ((1, 2), (3, 0))),
            ((0, 0, 1), ((1, 2), (2, 0))), ((2, 0, 1), ((1, 0), (2, 1))),
        ):
            book = Book(blocks, needs)
            self.assertEqual((book.blocks, book.needs), (blocks, needs))


if __name__ == "__main__":
    unittest.main()
