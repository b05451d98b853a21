"""10.1: changes, writes and what is told of them."""

import unittest

from ripewaves.books import Book
from ripewaves.cache import Cache
from ripewaves.errors import BadSizes, NoBlock, NoChange, NoField, NoNeeds, NoWorth
from ripewaves.standings import comes
from oracle import odd_things


def told(cache, sizes):
    """All that a cache tells, without changing it."""
    blocks = range(len(sizes))
    book, lot = cache.book()
    return {
        "waiting": cache.waiting(), "ripe": cache.ripe(), "writes": cache.writes(), "history": cache.history(),
        "seen": [cache.seen(block) for block in blocks], "disk": [cache.disk(block) for block in blocks],
        "picture": [cache.picture(block) for block in blocks], "book": (book.blocks, book.needs, lot),
        "last": [cache.last(block, field) for block in blocks for field in range(sizes[block])],
    }


class Sizes(unittest.TestCase):
    def test_bad_sizes(self):
        things = [
            (), (0,), (21,), (1, 0), (1,) * 9, (20,) * 8 + (1,), [1], [1, 1], 1, (1, 21), (True,), (1, True), (-1,),
            ("1",), (None,), ((1,),), {1: 1}, range(1, 3), "11", b"11",
        ]
        for thing in odd_things() + things:
            with self.assertRaises(BadSizes):
                Cache(thing)
        for thing in odd_things() + [0, 21, -1, "1", (1,), [1]]:
            with self.assertRaises(BadSizes):
                Cache((1, thing))

    def test_all_right_sizes_at_the_edges(self):
        for sizes in ((1,), (20,), (1,) * 8, (20,) * 8, (1, 20, 7)):
            cache = Cache(sizes)
            for block, size in enumerate(sizes):
                self.assertEqual(cache.seen(block), (0,) * size)
                self.assertEqual(cache.picture(block), (0,) * size)
                self.assertEqual(cache.disk(block), (0,) * size)
            with self.assertRaises(NoBlock):
                cache.seen(len(sizes))

    def test_a_new_cache(self):
        cache = Cache((2, 1))
        self.assertEqual((cache.waiting(), cache.ripe(), cache.writes(), cache.history()), ((), (), 0, []))
        self.assertEqual(cache.book(), (Book((), ()), ()))
        self.assertIsNone(cache.last(0, 1))
        with self.assertRaises(NoChange):
            cache.gone(0)


class Change(unittest.TestCase):
    def test_numbers_and_worths(self):
        cache = Cache((2, 1))
        self.assertEqual(cache.change(0, 1, 5, ()), 0)
        self.assertEqual(cache.change(1, 0, -7, ()), 1)
        self.assertEqual(cache.change(0, 1, 10 ** 59, (0, 1)), 2)
        self.assertEqual((cache.seen(0), cache.seen(1)), ((0, 10 ** 59), (-7,)))
        self.assertEqual((cache.disk(0), cache.disk(1)), ((0, 0), (0,)))
        self.assertEqual((cache.last(0, 0), cache.last(0, 1), cache.last(1, 0)), (None, 2, 1))
        self.assertEqual(cache.waiting(), (0, 1, 2))
        self.assertEqual(cache.ripe(), (0, 1))

    def test_the_same_worth_is_a_change_too(self):
        cache = Cache((1,))
        self.assertEqual((cache.change(0, 0, 0, ()), cache.change(0, 0, 0, ())), (0, 1))
        self.assertEqual(cache.book(), (Book((0, 0), ((1, 0),)), (0, 1)))

    def test_it_needs_the_last_change_of_its_field_that_waits(self):
        cache = Cache((2, 2))
        for block, field in ((0, 0), (0, 1), (0, 0), (1, 0), (0, 0)):
            cache.change(block, field, 1, ())
        self.assertEqual(cache.book(), (Book((0, 0, 0, 1, 0), ((2, 0), (4, 2))), (0, 1, 2, 3, 4)))
        cache.write(0)
        cache.change(0, 0, 2, ())
        self.assertEqual(cache.book(), (Book((1, 0), ()), (3, 5)))
        cache.change(0, 0, 2, (3, 5))
        self.assertEqual(cache.book(), (Book((1, 0, 0), ((2, 0), (2, 1))), (3, 5, 6)))

    def test_needs_of_such_as_are_on_the_disk(self):
        cache = Cache((1, 1))
        cache.change(0, 0, 5, ())
        cache.write(0)
        self.assertEqual(cache.change(1, 0, 6, (0,)), 1)
        self.assertEqual(cache.book(), (Book((1,), ()), (1,)))
        self.assertEqual(cache.write(1), (1,))

    def test_no_needs(self):
        cache = Cache((1, 1))
        for block in (0, 1, 0):
            cache.change(block, 0, 5, ())
        cache.write(1)
        cache.drop(2)
        before = told(cache, (1, 1))
        for needs in odd_things() + [
            (2,), (0, 2), (1, 2), (3,), (4,), (0, 3), (1, 0), (0, 0), [0], (-1,), (True,), 0, (0, 10 ** 59), {0: 1},
        ]:
            with self.assertRaises(NoNeeds):
                cache.change(0, 0, 5, needs)
        self.assertEqual(told(cache, (1, 1)), before)
        self.assertEqual(cache.change(0, 0, 5, (0, 1)), 3)
        cache.cut()
        for needs in ((0,), (1, 3), (3,), (0, 1)):
            with self.assertRaises(NoNeeds):
                cache.change(0, 0, 5, needs)
        self.assertEqual(cache.change(0, 0, 5, (1,)), 4)

    def test_errors_in_their_order(self):
        cache = Cache((1, 2))
        cache.change(0, 0, 1, ())
        before = told(cache, (1, 2))
        for thing in odd_things() + [2, 8, (), (0,), "0"]:
            for field, worth, needs in ((0, 1, ()), (9, None, None), (thing, thing, thing)):
                with self.assertRaises(NoBlock):
                    cache.change(thing, field, worth, needs)
            for worth, needs in ((1, ()), (None, None), (thing, thing)):
                with self.assertRaises(NoField):
                    cache.change(1, thing, worth, needs)
        with self.assertRaises(NoField):
            cache.change(0, 1, 1, ())
        for thing in odd_things():
            if not isinstance(thing, int) or isinstance(thing, bool):
                for needs in ((), (1,), None, thing):
                    with self.assertRaises(NoWorth):
                        cache.change(1, 1, thing, needs)
        self.assertEqual(told(cache, (1, 2)), before)
        self.assertEqual(cache.change(1, 1, -3, ()), 1)

    def test_the_needs_are_kept_as_they_are(self):
        cache = Cache((1, 1))
        cache.change(0, 0, 1, ())
        needs = (0,)
        cache.change(1, 0, 1, needs)
        self.assertEqual(needs, (0,))


class Last(unittest.TestCase):
    def test_the_last_one_that_waits(self):
        cache = Cache((2,))
        for field in (0, 1, 0):
            cache.change(0, field, 1, ())
        self.assertEqual((cache.last(0, 0), cache.last(0, 1)), (2, 1))
        cache.drop(2)
        self.assertEqual(cache.last(0, 0), 0)
        cache.write(0)
        self.assertEqual((cache.last(0, 0), cache.last(0, 1)), (None, None))
        cache.change(0, 1, 1, ())
        self.assertEqual((cache.last(0, 0), cache.last(0, 1)), (None, 3))
        cache.cut()
        self.assertIsNone(cache.last(0, 1))

    def test_no_block_ahead_of_no_field(self):
        cache = Cache((1, 2))
        for thing in odd_things() + [2, (), (0,)]:
            for field in (0, 9, None, thing):
                with self.assertRaises(NoBlock):
                    cache.last(thing, field)
            with self.assertRaises(NoField):
                cache.last(1, thing)
        with self.assertRaises(NoField):
            cache.last(0, 1)


class Write(unittest.TestCase):
    def test_what_comes(self):
        cache = Cache((2, 1))
        cache.change(0, 0, 5, ())
        cache.change(1, 0, 7, (0,))
        cache.change(0, 0, 6, (1,))
        cache.change(0, 1, 8, ())
        self.assertEqual((cache.picture(0), cache.picture(1)), ((5, 8), (0,)))
        self.assertEqual(cache.ripe(), (0,))
        self.assertEqual(cache.write(0), (0, 3))
        self.assertEqual((cache.disk(0), cache.seen(0), cache.picture(0)), ((5, 8), (6, 8), (5, 8)))
        self.assertEqual((cache.picture(1), cache.waiting(), cache.ripe()), ((7,), (1, 2), (1,)))
        self.assertEqual(cache.write(1), (1,))
        self.assertEqual(cache.write(0), (2,))
        self.assertEqual((cache.disk(0), cache.disk(1)), ((6, 8), (7,)))
        self.assertEqual(cache.history(), [(0, (0, 3)), (1, (1,)), (0, (2,))])

    def test_changes_of_a_block_that_need_one_another_come_together(self):
        cache = Cache((2, 1))
        cache.change(0, 0, 1, ())
        cache.change(0, 1, 2, (0,))
        cache.change(0, 0, 3, (1,))
        self.assertEqual(cache.picture(0), (3, 2))
        self.assertEqual(cache.write(0), (0, 1, 2))
        self.assertEqual(cache.disk(0), (3, 2))

    def test_writes_that_bring_nothing_count(self):
        cache = Cache((1, 1))
        self.assertEqual((cache.write(1), cache.write(1)), ((), ()))
        self.assertEqual((cache.writes(), cache.history()), (2, [(1, ()), (1, ())]))
        cache.change(0, 0, 1, ())
        cache.change(1, 0, 1, (0,))
        self.assertEqual(cache.write(1), ())
        self.assertEqual((cache.writes(), cache.disk(1), cache.picture(1)), (3, (0,), (0,)))

    def test_no_block(self):
        cache = Cache((1, 2))
        for thing in odd_things() + [2, 8, (), (0,), "0"]:
            for method in (cache.write, cache.seen, cache.picture, cache.disk):
                with self.assertRaises(NoBlock):
                    method(thing)
        self.assertEqual((cache.writes(), cache.history()), (0, []))

    def test_a_write_brings_what_a_write_of_the_book_brings(self):
        cache = Cache((3, 3, 3))
        for number in range(40):
            needs = tuple(other for other in range(number) if other % 7 == number * 3 % 7)
            cache.change(number * number % 3, number % 2, number, needs)
        for block in (2, 0, 1, 0, 0, 1, 0, 1, 0, 1, 0):
            book, lot = cache.book()
            if block in book.blocks:
                want = tuple(lot[change] for change in comes(book, (), block))
                self.assertEqual(cache.write(block), want)


class Returned(unittest.TestCase):
    def test_lists_are_new(self):
        cache = Cache((1,))
        cache.change(0, 0, 1, ())
        cache.write(0)
        first = cache.history()
        first.append(None)
        first[0] = None
        self.assertEqual(cache.history(), [(0, (0,))])

    def test_kinds(self):
        cache = Cache((1,))
        cache.change(0, 0, 1, ())
        for thing in (cache.seen(0), cache.picture(0), cache.disk(0), cache.waiting(), cache.ripe(), cache.book(),
                      cache.book()[1], cache.sync((0,)), cache.flush(), cache.cut(), cache.write(0)):
            self.assertIs(type(thing), tuple)
        self.assertIs(type(cache.history()), list)
        self.assertIs(type(cache.gone(0)), bool)
        self.assertIs(type(cache.copy()), Cache)
        self.assertIs(type(cache.book()[0]), Book)
        self.assertIs(type(cache.change(0, 0, 1, ())), int)
        self.assertIsNone(cache.drop(1))

    def test_a_cache_is_equal_to_nothing_else(self):
        cache = Cache((1,))
        self.assertFalse(cache == Book((), ()))
        self.assertFalse(Book((), ()) == cache)
        for thing in odd_things():
            self.assertFalse(cache == thing)
            self.assertTrue(cache != thing)


if __name__ == "__main__":
    unittest.main()
