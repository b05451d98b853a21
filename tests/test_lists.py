"""6.1: two lists of writes, their meetings and their rows."""

import unittest
from itertools import product

from ripewaves.books import Book
from ripewaves.errors import BadList
from ripewaves.even import fewest, longest, most, shortest
from ripewaves.lists import (
    fewest_lists, is_mirrors, least_row, list_parting, lists_book, many_even, meetings, mirrors, most_lists,
)
from ripewaves.standings import is_willing
from oracle import Dice, odd_things, reached, willing_rows

BOTH = (lists_book, meetings, fewest_lists, most_lists, least_row, mirrors, list_parting)


def lists_of(size, letters):
    return [row for row in product(range(letters), repeat=size) if all(a != b for a, b in zip(row, row[1:]))]


def small_pairs():
    """All pairs of lists of at most four items below 3, not both of four."""
    rows = [row for size in range(5) for row in lists_of(size, 3)]
    return [(one, other) for one in rows for other in rows if len(one) + len(other) < 7]


def thrown_list(dice, most_items, letters):
    row = ()
    for _ in range(dice.below(most_items + 1)):
        item = dice.below(letters)
        if row[-1:] != (item,):
            row += (item,)
    return row


def thrown_pairs(seed, many, most_items, letters):
    dice = Dice(seed)
    return [(thrown_list(dice, most_items, letters), thrown_list(dice, most_items, letters)) for _ in range(many)]


def plain_book(one, other):
    ahead = [(k, k - 1) for k in range(1, len(one))]
    behind = [(len(one) + k, len(one) + k - 1) for k in range(1, len(other))]
    return Book(one + other, tuple(ahead + behind))


def plain_meetings(one, other):
    """By the standings that can come of the book of both lists."""
    pairs = []
    for standing in reached(plain_book(one, other)):
        i = len([change for change in standing if change < len(one)])
        j = len(standing) - i
        if i < len(one) and j < len(other) and one[i] == other[j]:
            pairs.append((i, j))
    return sorted(pairs)


class BadLists(unittest.TestCase):
    def bad(self, which, function, *given):
        with self.assertRaises(BadList) as caught:
            function(*given)
        self.assertEqual(caught.exception.which, which)

    def wrong(self):
        return odd_things() + [
            [0, 1], 0, "01", (0, 0), (1, 2, 2, 3), (50,), (0, 50), (-1,), (0, -1), (True,), (0, True), (0, False),
            (0, 1) * 50 + (0,), tuple(range(49)) * 3, (0, None), (0, (1,)), ("0",), {0: 1}, range(3), (0, "1"),
        ]

    def test_the_one_ahead_of_the_other(self):
        for thing in self.wrong():
            for other in ((), (0, 1), None, (0, 0), thing):
                for function in BOTH:
                    self.bad("one", function, thing, other)
                self.bad("one", is_mirrors, thing, other, ())
                self.bad("one", is_mirrors, thing, other, thing)

    def test_the_other(self):
        for thing in self.wrong():
            for one in ((), (0, 1), (49,) + (0, 1) * 49):
                for function in BOTH:
                    self.bad("other", function, one, thing)
                self.bad("other", is_mirrors, one, thing, ())
                self.bad("other", is_mirrors, one, thing, thing)

    def test_many_even_has_the_one_alone(self):
        for thing in self.wrong():
            for size, letters in ((0, 0), (1, 2), (None, None), (99, 50), (thing, thing)):
                self.bad("one", many_even, thing, size, letters)

    def test_lists_at_the_edges(self):
        great = (49, 0) * 50
        self.assertEqual(lists_book(great, ()), plain_book(great, ()))
        self.assertEqual(lists_book((), great), plain_book((), great))
        self.assertEqual((fewest_lists(great, great), most_lists(great, great)), (100, 100))


class ListsBook(unittest.TestCase):
    def test_ordinary(self):
        self.assertEqual(lists_book((0, 1, 2), (2, 1)), Book((0, 1, 2, 2, 1), ((1, 0), (2, 1), (4, 3))))
        self.assertEqual(lists_book((), ()), Book((), ()))
        self.assertEqual(lists_book((7,), ()), Book((7,), ()))
        self.assertEqual(lists_book((), (3, 4)), Book((3, 4), ((1, 0),)))
        self.assertEqual(lists_book((7,), (7,)), Book((7, 7), ()))

    def test_as_defined(self):
        for one, other in small_pairs() + thrown_pairs(121, 30, 100, 50):
            book = lists_book(one, other)
            self.assertEqual(book, plain_book(one, other))
            self.assertIs(type(book), Book)


class Walks(unittest.TestCase):
    def test_ordinary(self):
        self.assertEqual(meetings((0, 1, 2), (2, 1, 0)), [(0, 2), (1, 1), (2, 0)])
        self.assertEqual((fewest_lists((0, 1), (1, 0)), most_lists((0, 1), (1, 0))), (3, 3))
        self.assertEqual(least_row((0, 1, 2), (2, 1, 0)), (0, 1, 2, 1, 0))
        self.assertEqual(meetings((0, 1), (1, 2)), [(1, 0)])
        self.assertEqual((fewest_lists((0, 1), (1, 2)), most_lists((0, 1), (1, 2))), (3, 4))
        self.assertEqual(least_row((0, 1), (1, 2)), (0, 1, 2))

    def test_e05(self):
        self.assertEqual((fewest_lists((0, 1, 2), (2, 1, 0)), mirrors((0, 1, 2), (2, 1, 0))), (5, (2,)))

    def test_empty_lists(self):
        for one, other in (((), ()), ((), (3, 1, 3)), ((3, 1, 3), ())):
            self.assertEqual(meetings(one, other), [])
            self.assertEqual(fewest_lists(one, other), len(one + other))
            self.assertEqual(most_lists(one, other), len(one + other))
            self.assertEqual(least_row(one, other), one + other)

    def test_equal_lists(self):
        row = (3, 1, 3, 0)
        self.assertEqual(meetings(row, row), [(0, 0), (1, 1), (2, 2), (3, 3)])
        self.assertEqual((fewest_lists(row, row), most_lists(row, row), least_row(row, row)), (4, 4, row))

    def test_a_place_that_can_not_come_is_no_meeting(self):
        # at (0, 0) both are written together, so (0, 1) and (1, 0) never come
        self.assertEqual(meetings((0, 1), (0, 2)), [(0, 0)])
        self.assertEqual(meetings((0, 1, 0), (0,)), [(0, 0)])
        self.assertEqual(meetings((0, 1), (0, 1)), [(0, 0), (1, 1)])

    def test_against_all_willing_rows(self):
        uneven = 0
        for one, other in small_pairs() + thrown_pairs(122, 40, 6, 4):
            rows = willing_rows(plain_book(one, other))
            least, greatest = min(map(len, rows)), max(map(len, rows))
            self.assertEqual((fewest_lists(one, other), most_lists(one, other)), (least, greatest))
            self.assertEqual(least_row(one, other), min(row for row in rows if len(row) == least))
            self.assertEqual(meetings(one, other), plain_meetings(one, other))
            uneven += least != greatest
        self.assertGreater(uneven, 200)

    def test_as_of_the_book(self):
        for one, other in thrown_pairs(123, 30, 25, 5):
            book = lists_book(one, other)
            self.assertEqual((fewest_lists(one, other), most_lists(one, other)), (fewest(book), most(book)))
            self.assertEqual(least_row(one, other), shortest(book))
            pair = list_parting(one, other)
            if pair is not None:
                self.assertEqual((len(pair[0]), len(pair[1])), (fewest(book), len(longest(book))))

    def test_lists_of_a_hundred_items(self):
        dice = Dice(124)
        one = tuple((k // 2 if k % 2 else 49 - k // 3) % 50 for k in range(100))
        one = tuple(item for k, item in enumerate(one) if k == 0 or item != one[k - 1])
        self.assertGreater(len(one), 95)
        for other in (one[::-1], thrown_list(dice, 100, 50), (0, 1) * 50, one[:50]):
            row = least_row(one, other)
            self.assertEqual(len(row), fewest_lists(one, other))
            self.assertLessEqual(len(row), most_lists(one, other))
            self.assertIs(is_willing(lists_book(one, other), (), row), True)
            for i, j in meetings(one, other):
                self.assertEqual(one[i], other[j])
        for size in (99, 100):
            low, high = tuple(k % 2 for k in range(size)), tuple(2 + k % 2 for k in range(100))
            self.assertEqual((fewest_lists(low, high), meetings(low, high)), (size + 100, []))
            self.assertEqual(least_row(low, high), low + high)
        back = (0, 1) * 50
        self.assertEqual((fewest_lists(back, back[::-1]), most_lists(back, back[::-1])), (101, 101))
        pairs = [(k, k + 1) for k in range(99)] + [(k + 1, k) for k in range(99)]
        self.assertEqual(meetings(back, back[::-1]), sorted(pairs))

    def test_lists_are_new(self):
        first = meetings((0, 1), (1, 0))
        first.append(None)
        first[0] = None
        self.assertEqual(meetings((0, 1), (1, 0)), [(0, 1), (1, 0)])

    def test_equal_calls_give_equal_answers(self):
        for one, other in thrown_pairs(125, 20, 9, 4):
            for function in BOTH:
                self.assertEqual(function(one, other), function(tuple(list(one)), tuple(list(other))))


if __name__ == "__main__":
    unittest.main()
